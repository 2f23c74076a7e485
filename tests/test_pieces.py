"""Point 21: pieces of programs, and when one may be exchanged for another."""

import random
import unittest

from nearercamps import pieces
from nearercamps.errors import CanNot, NoPlace, Unfit
from nearercamps.machines import is_machine, merged
from nearercamps.together import surely_together
from tests import plain_machines as plain
from tests import plain_steps
from tests.calls import check_call
from tests.drawn import DUO, TAME, TOLD, TURN, TWO, WILD, drawn_machines
from tests.support import check_kind, junk

CHAIN, WIDE = ((0,), (0,), (1,)), ((0, 1), (0,), (1,))
SWAP, STAY = (((((1,), (0,)), None),), (((0, 1),),)), (((((0,), (1,)), None),), (((0, 1),),))
EMPTY = (((CHAIN, None),), ())
PICK = (((CHAIN, None), (WIDE, None)), (((0, 1), (1, 1)),))
# Rows of one, two and three arrows.
UNEVEN = (((CHAIN, None), (((1,), (2,), (2,)), None)), (((0, 3), (1, 1)), ((0, 2), (1, 3)), ((1, 3),)))
TOLD_PIECE = (((((0, 1), (1,)), (((1, 3), (2, 3)), ((1, 1),))), (((1,), (0, 1)), None)), (((0, 1), (1, 2)), ((1, 2),)))
ALONE = (((((0,),), None),), (((0, 1),),))


def rows(piece):
    """Return the list of the rows of a PIECE, each the list of the places of its STEPS."""
    found, going = [], [((), 0)]
    while going:
        row, k = going.pop()
        if k == len(piece[1]):
            found.append(row)
        else:
            going += [(row + (step,), end) for step, end in piece[1][k]]
    return found


def draw_piece(rng, n, stands, steps=3, more=2):
    """Draw a PIECE for n places with at most so many stands."""
    own_steps = tuple(plain_steps.draw_step(rng, n, None, rng.random() < 0.8) for _ in range(steps))
    stands = rng.randint(0, stands)
    arrows = [[] for _ in range(stands)]
    for k in range(1, stands):
        arrows[rng.randrange(k)].append((rng.randrange(steps), k))
    for k in range(stands):
        for _ in range(rng.randint(0 if arrows[k] else 1, more)):
            new = (rng.randrange(steps), rng.randint(k + 1, stands))
            if new not in arrows[k]:
                arrows[k].append(new)
        rng.shuffle(arrows[k])
    return own_steps, tuple(map(tuple, arrows))


def drawn_pieces(seed, many, most_places=3):
    rng = random.Random(seed)
    return [draw_piece(rng, rng.randint(1, most_places), 4) for _ in range(many)]


SOME = [EMPTY, PICK, UNEVEN, TOLD_PIECE, SWAP, STAY, ALONE] + drawn_pieces(1101, 80) + drawn_pieces(1102, 10, 5)


def places(piece):
    return len(piece[0][0][0])


def row_looks(piece, row):
    """Return the LOOKS of a row: at whom each place looks over all its moves, one after another."""
    n = places(piece)
    found = []
    for place in range(n):
        seen = {place}
        for step in reversed(row):
            seen = {q for p in seen for q in piece[0][step][0][p]}
        found.append(tuple(sorted(seen)))
    return tuple(found)


def table_by(n, leads):
    """Return the table of what leads, functions from CAMPS to CAMPS or None, do to all CAMPS."""
    found = []
    for some in plain.every_camps(n):
        ends = {lead(some) for lead in leads} - {None}
        left = {end for end in ends if not any(end != one and plain.within(end, one) for one in ends)}
        found.append((some, tuple(sorted(left))))
    return tuple(found)


def led_by_row(piece, row, some):
    for step in row:
        some = some and plain.led(piece[0][step][0], some)
    return some


def plain_table(piece):
    return table_by(places(piece), [lambda some, row=row: led_by_row(piece, row, some) for row in set(rows(piece))])


def table_of(looks):
    return table_by(len(looks[0]), [lambda some, own=own: plain.led(own, some) for own in looks])


def is_piece(thing, n):
    if type(thing) is not tuple or len(thing) != 2 or type(thing[0]) is not tuple or type(thing[1]) is not tuple:
        return False
    steps, stands = thing
    if len(steps) == 0 or not all(plain_steps.step(step, n) for step in steps):
        return False
    for k, arrows in enumerate(stands):
        if type(arrows) is not tuple or len(arrows) == 0:
            return False
        if not all(plain.arrow(arrow, len(steps), len(stands) + 1) and arrow[1] > k for arrow in arrows):
            return False
        if len(set(arrows)) < len(arrows) or (k > 0 and not any(k == end for own in stands for _, end in own)):
            return False
    return True


def pairs_of(some):
    return [(one, other) for one in some for other in some if places(one) == places(other)]


class Kinds(unittest.TestCase):
    def test_things_of_every_kind(self):
        for piece in (EMPTY, PICK, UNEVEN, TOLD_PIECE, SWAP, ALONE):
            n = places(piece)
            check_kind(self, lambda one: pieces.is_piece(one, n), lambda one: is_piece(one, n), piece)
            self.assertIs(pieces.is_piece(piece, n + 1), False)
        for piece in SOME:
            self.assertIs(pieces.is_piece(piece, places(piece)), True)

    def test_beyond_the_bounds(self):
        steps = ((((0,),), None),)
        long = (steps, tuple(((0, k + 1),) for k in range(3000)))
        self.assertIs(pieces.is_piece(long, 1), True)
        self.assertIs(pieces.is_piece((steps, long[1][:-1] + (((0, 3001),),)), 1), False)
        self.assertIs(pieces.is_piece((steps, long[1][:5] + (((0, 7),),) + long[1][6:]), 1), False)

    def test_made_of_rows_and_looks(self):
        self.assertEqual(pieces.row_piece((PICK[0][1], PICK[0][0])), ((PICK[0][1], PICK[0][0]), (((0, 1),), ((1, 2),))))
        self.assertEqual(pieces.choice_piece((CHAIN, WIDE)), PICK)
        self.assertEqual(pieces.choice_piece((CHAIN,)), (((CHAIN, None),), (((0, 1),),)))
        told = TOLD_PIECE[0][0]
        self.assertEqual(pieces.row_piece((told,)), ((told,), (((0, 1),),)))


class Tables(unittest.TestCase):
    def test_looks_and_tables_against_all_rows_and_all_camps(self):
        for piece in SOME:
            looks = tuple(sorted({row_looks(piece, row) for row in rows(piece)}))
            self.assertEqual(pieces.piece_looks(piece), looks)
            self.assertEqual(pieces.piece_table(piece), plain_table(piece))
            self.assertEqual(pieces.table_of_looks(looks), table_of(looks))
            self.assertEqual(pieces.table_of_looks(looks), plain_table(piece))

    def test_plain_looks(self):
        sizes = set()
        for piece in SOME:
            left = list(pieces.piece_looks(piece))
            for own in pieces.piece_looks(piece):
                others = [one for one in left if one != own]
                if others and table_of(others) == plain_table(piece):
                    left = others
            self.assertEqual(pieces.plain_looks(piece), tuple(left))
            sizes.add((len(pieces.piece_looks(piece)), len(left)))
        self.assertLessEqual({(1, 1), (2, 1), (3, 1), (3, 2), (3, 3)}, sizes)

    def test_the_edges(self):
        still = ((0,), (1,), (2,))
        self.assertEqual(pieces.piece_looks(EMPTY), (still,))
        self.assertEqual(pieces.plain_looks(EMPTY), (still,))
        self.assertEqual(pieces.piece_table(EMPTY), tuple((some, (some,)) for some in plain.every_camps(3)))
        self.assertEqual(pieces.piece_table(ALONE), ())
        self.assertEqual(pieces.plain_looks((ALONE[0] * 2, (((0, 1), (1, 1)),))), (((0,),),))
        dying = pieces.choice_piece((((0,), (0,)), ((0, 1), (0, 1))))
        self.assertEqual(pieces.piece_table(dying), ((((0,), (1,)), ()),))
        self.assertEqual(pieces.plain_looks(dying), (((0, 1), (0, 1)),))

    def test_sixty_looks(self):
        rng = random.Random(2)
        looks = set()
        while len(looks) < 60:
            looks.add(plain_steps.draw_looks(rng, 5, True))
        piece = pieces.choice_piece(tuple(sorted(looks)))
        self.assertEqual(pieces.piece_table(piece), plain_table(piece))
        self.assertEqual(pieces.table_of_looks(pieces.plain_looks(piece)), plain_table(piece))


class Joined(unittest.TestCase):
    def test_joined_and_either_by_their_rows(self):
        for one, other in pairs_of(SOME[:40]):
            joined = pieces.joined_piece(one, other)
            self.assertIs(is_piece(joined, places(one)), True)
            self.assertEqual(joined[0], one[0] + other[0])
            self.assertEqual(joined[1][:len(one[1])], one[1])
            more = [tuple(step + len(one[0]) for step in row) for row in rows(other)]
            self.assertEqual(sorted(rows(joined)), sorted(a + b for a in rows(one) for b in more))
            self.assertEqual(len(joined[1]), len(one[1]) + len(other[1]))
            if one[1] == () or other[1] == ():
                self.assertRaises(Unfit, pieces.either_piece, one, other)
                continue
            either = pieces.either_piece(one, other)
            self.assertIs(is_piece(either, places(one)), True)
            self.assertEqual(either[0], one[0] + other[0])
            self.assertEqual(sorted(rows(either)), sorted(rows(one) + more))
            self.assertEqual(len(either[1]), len(one[1]) + len(other[1]) - 1)

    def test_stands_in_order(self):
        self.assertEqual(pieces.joined_piece(UNEVEN, PICK)[1], UNEVEN[1] + (((2, 4), (3, 4)),))
        self.assertEqual(pieces.joined_piece(EMPTY, PICK)[1], (((1, 1), (2, 1)),))
        self.assertEqual(pieces.joined_piece(PICK, EMPTY)[1], PICK[1])
        self.assertEqual(pieces.joined_piece(EMPTY, EMPTY), (EMPTY[0] * 2, ()))
        self.assertEqual(pieces.either_piece(PICK, UNEVEN)[1],
                         (((0, 3), (1, 3), (2, 3), (3, 1)), ((2, 2), (3, 3)), ((3, 3),)))
        self.assertEqual(pieces.either_piece(UNEVEN, PICK)[1],
                         (((0, 3), (1, 1), (2, 3), (3, 3)), ((0, 2), (1, 3)), ((1, 3),)))

    def test_tables_hang_on_those_of_both(self):
        for one, other in pairs_of(SOME[:60]):
            tables = plain_table(one), plain_table(other)
            self.assertEqual(pieces.joined_table(*tables), plain_table(pieces.joined_piece(one, other)))
            if one[1] != () and other[1] != ():
                self.assertEqual(pieces.either_table(*tables), plain_table(pieces.either_piece(one, other)))

    def test_pieces_alike(self):
        met = set()
        for one, other in pairs_of(SOME[:60]):
            right = plain_table(one) == plain_table(other)
            self.assertIs(pieces.pieces_alike(one, other), right)
            met.add((right, one == other))
        self.assertEqual(len(met), 3)


def alike_pairs():
    """Return pairs of PIECES with equal tables."""
    found = [(one, other) for one, other in pairs_of(SOME[:60]) if one != other and places(one) > 1]
    return [(one, other) for one, other in found if plain_table(one) == plain_table(other)]


class Called(unittest.TestCase):
    def test_runs_through_a_called_piece(self):
        for own in (WILD, TAME, DUO, TURN, TWO):
            for piece in (EMPTY, PICK, UNEVEN):
                for k, (_, arrows) in enumerate(own[1]):
                    for arrow in range(len(arrows)):
                        self.check(own, k, arrow, piece)

    def check(self, own, k, arrow, piece):
        made = pieces.called(own, k, arrow, piece)
        steps, stands = made
        self.assertIs(is_machine(made, 3), True)
        self.assertEqual(steps, own[0] + piece[0] + ((((0,), (1,), (2,)), None),))
        self.assertEqual(len(stands), len(own[1]) + len(piece[1]))
        for at, (owner, arrows) in enumerate(own[1]):
            self.assertEqual(stands[at][0], owner)
            for part, old in enumerate(arrows):
                if (at, part) != (k, arrow):
                    self.assertEqual(stands[at][1][part], old)
        self.assertTrue(all(owner == "any" for owner, _ in stands[len(own[1]):]))
        step, begin = stands[k][1][arrow]
        end = own[1][k][1][arrow][1]
        self.assertEqual(step, len(steps) - 1)
        found, going = [], [((), begin)]
        while going:
            row, at = going.pop()
            if at < len(own[1]):
                self.assertEqual(at, end)
                found.append(row)
            else:
                going += [(row + (one - len(own[0]),), to) for one, to in stands[at][1]]
        self.assertEqual(sorted(found), sorted(rows(piece)))

    def test_stands_in_order(self):
        made = pieces.called(DUO, 0, 1, UNEVEN)
        self.assertEqual(made[1], (("any", ((0, 1), (4, 2))), DUO[1][1], ("any", ((2, 1), (3, 3))),
                                   ("any", ((2, 4), (3, 1))), ("any", ((3, 1),))))
        self.assertEqual(pieces.called(WILD, 0, 0, EMPTY)[1], (("any", ((3, 0), (1, 0))),))

    def test_what_is_none(self):
        for stand, arrow, told in ((1, 0, 1), (-1, 0, -1), (2, 7, 2), (0, 2, 2), (0, -1, -1)):
            with self.assertRaises(NoPlace) as caught:
                pieces.called(WILD, stand, arrow, PICK)
            self.assertEqual(caught.exception.place, told)

    def test_pieces_alike_may_be_exchanged_in_drawn_machines(self):
        rng = random.Random(3)
        drawn = [own for own in drawn_machines(1103, 60, 3, 4) if len(own[0][0][0]) > 1] + [WILD, TAME, DUO, TURN, TOLD]
        answers = set()
        pairs = alike_pairs()
        self.assertGreater(len(pairs), 20)
        for own in drawn:
            fitting = [pair for pair in pairs if places(pair[0]) == len(own[0][0][0])]
            for one, other in rng.sample(fitting, min(8, len(fitting))):
                k = rng.randrange(len(own[1]))
                arrow = rng.randrange(len(own[1][k][1]))
                both = [surely_together(pieces.called(own, k, arrow, piece)) for piece in (one, other)]
                self.assertEqual(both[0], both[1])
                answers.add(both[0])
        self.assertEqual(answers, {True, False})


def together(piece, looks):
    """Return whether all runs come together that go round by piece and then a STEP with these LOOKS."""
    end = len(piece[1])
    stands = tuple(("any", arrows) for arrows in piece[1]) + (("any", ((len(piece[0]), 0),)),)
    assert end == len(stands) - 1
    return plain.together((piece[0] + ((looks, None),), stands))


class Around(unittest.TestCase):
    def test_around(self):
        self.assertEqual(pieces.around(PICK, CHAIN), (PICK[0] + ((CHAIN, None),),
                                                     (("any", ((0, 1), (1, 1))), ("any", ((2, 0),)))))
        self.assertEqual(pieces.around(EMPTY, CHAIN), (EMPTY[0] + ((CHAIN, None),), (("any", ((1, 0),)),)))
        for piece in SOME:
            looks = piece[0][-1][0]
            made = pieces.around(piece, looks)
            self.assertIs(is_machine(made, places(piece)), True)
            self.assertEqual(surely_together(made), together(piece, looks))
            self.assertLessEqual(len(merged(made)[1]), len(piece[1]) + 1)

    def test_surrounding_exactly_if_not_alike(self):
        kinds = set()
        for one, other in pairs_of(SOME):
            if plain_table(one) == plain_table(other):
                self.assertRaises(CanNot, pieces.surrounding, one, other)
                kinds.add("alike")
            else:
                looks = pieces.surrounding(one, other)
                self.assertIs(plain_steps.looks(looks, places(one)), True)
                self.assertIs(pieces.is_surrounding(one, other, looks), True)
                if places(one) < 4:
                    self.assertNotEqual(together(one, looks), together(other, looks))
                kinds.add(together(one, looks))
        self.assertEqual(kinds, {"alike", True, False})

    def test_many_looks_against_plain_counting(self):
        rng = random.Random(4)
        met = set()
        for one, other in pairs_of(SOME[:40]):
            looks = plain_steps.draw_looks(rng, places(one), True)
            right = together(one, looks) != together(other, looks)
            self.assertIs(pieces.is_surrounding(one, other, looks), right)
            met.add((right, plain_table(one) == plain_table(other)))
        self.assertEqual(met, {(True, False), (False, False), (False, True)})

    def test_things_of_every_kind(self):
        twice = pieces.joined_piece(PICK, PICK)

        def right(thing):
            return plain_steps.looks(thing, 3) and together(PICK, thing) != together(twice, thing)

        check_kind(self, lambda one: pieces.is_surrounding(PICK, twice, one), right, ((0, 1), (2,), (0, 1, 2)))
        for thing in junk():
            self.assertIs(pieces.is_surrounding(PICK, PICK, thing), False)


class Calls(unittest.TestCase):
    def test_every_row_of_arguments(self):
        for piece in (EMPTY, PICK, UNEVEN, TOLD_PIECE, SWAP):
            check_call(self, pieces.is_piece, {"thing": piece, "n": places(piece)})
            for function in (pieces.piece_looks, pieces.plain_looks, pieces.piece_table):
                check_call(self, function, {"piece": piece})
            looks = pieces.piece_looks(piece)
            check_call(self, pieces.row_piece, {"steps": piece[0]})
            check_call(self, pieces.choice_piece, {"looks": looks})
            check_call(self, pieces.table_of_looks, {"looks": looks})
            check_call(self, pieces.around, {"piece": piece, "looks": looks[0]})
            for other in [own for own in (EMPTY, PICK, UNEVEN, SWAP, STAY) if places(own) == places(piece)]:
                for function in (pieces.joined_piece, pieces.either_piece, pieces.pieces_alike, pieces.surrounding):
                    check_call(self, function, {"one": piece, "other": other})
                named = {"one": piece, "other": other, "thing": ((0, 1), (2,), (0, 1, 2))}
                check_call(self, pieces.is_surrounding, named)
                tables = pieces.piece_table(piece), pieces.piece_table(other)
                check_call(self, pieces.joined_table, {"table": tables[0], "behind": tables[1]})
                check_call(self, pieces.either_table, {"table": tables[0], "beside": tables[1]})
        for stand, arrow in ((0, 1), (1, 0), (2, 0), (0, 2)):
            check_call(self, pieces.called, {"machine": DUO, "stand": stand, "arrow": arrow, "piece": UNEVEN})
        check_call(self, pieces.called, {"machine": TOLD, "stand": 0, "arrow": 1, "piece": TOLD_PIECE})


if __name__ == "__main__":
    unittest.main()
