"""Point 20: sums that stay, and the agreed number."""

import random
import unittest
from fractions import Fraction
from functools import lru_cache

from nearercamps import shares
from nearercamps.errors import CanNot, NoPlace, Unfit
from tests import plain_machines as plain
from tests import plain_steps
from tests import plain_sums as sums
from tests.calls import check_call
from tests.drawn import DUO, LONE, LONE_OURS, SIX_TURN, TAME, TOLD, TURN, TWO, WILD, drawn_machines
from tests.support import check_kind

E, O = (1, 1), (0, 1)
NOUGHT, UNIT = (((0,), (0,)), None), (((1,), (1,)), None)
PULL = (((0, 1), (0, 1)), (((3, 4), (1, 4)), ((1, 2), (1, 2))))
PULLED = ((PULL,), (("any", ((0, 0),)),))
EITHER = ((NOUGHT, UNIT), (("any", ((0, 0), (1, 0))),))
COPIED = ((NOUGHT, PULL), (("any", ((0, 1),)), ("any", ((1, 0),))))
LOOSE = (((((0, 1), (1,)), None),), (("any", ((0, 0),)),))
MIX = (((((0, 1), (0, 1)), None),), (("any", ((0, 0),)),))
SWAP = (((((1,), (0,)), None),), (("any", ((0, 0),)),))
STILL = (((((0,), (1,)), None), PULL), (("ours", ((0, 0), (1, 0))),))
# Behind a copy nobody can tell the two ways home apart, behind the other arrow one can.
BLIND = ((NOUGHT, (((0,), (0, 1)), None), PULL), (("any", ((0, 1), (1, 1))), ("any", ((1, 0), (2, 0)))))
NAMED = (BLIND, PULLED, EITHER, COPIED, LOOSE, MIX, SWAP, STILL, WILD, TAME, DUO, TURN, TWO, LONE, LONE_OURS, TOLD,
         SIX_TURN)


def with_wide_lots(seed, many, told):
    """Return drawn MACHINES in whose STEPS any number of places may be looked at."""
    rng = random.Random(seed)
    found = []
    for steps, stands in drawn_machines(seed, many, 4, 3):
        n = len(steps[0][0])
        found.append((tuple(plain_steps.draw_step(rng, n, told, rng.random() < 0.5) for _ in steps), stands))
    return tuple(found)


WIDE = (((((0, 1, 2),) * 3, None),), (("any", ((0, 0),)),))
MOST = with_wide_lots(1004, 20, False) + with_wide_lots(1005, 15, None) + (WIDE,)
SOME = tuple(drawn_machines(1001, 60, 4, 4)) + tuple(drawn_machines(1002, 60, 3, 3, told=True)) + MOST + NAMED


def places(own):
    return len(own[0][0][0])


def agree(own):
    """Return whether all runs come together, whoever chooses."""
    return plain.together(plain.handed(own, ()))


def worth(row):
    return [Fraction(*pair) for pair in row]


@lru_cache(maxsize=None)
def drawn_states(own, stand):
    """Return numbers that can stand at a stand, each led there by a drawn way from a drawn start."""
    found = []
    rng = random.Random(3)
    while len(found) < 24:
        row, told, k = sums.draw_way(rng, own, 0, rng.randint(0, 2 * len(own[1])))
        if k == stand:
            table = sums.matrix(own, 0, row, told)
            start = [Fraction(rng.randint(-9, 9)) for _ in range(places(own))]
            found.append([sum(a * b for a, b in zip(line, start)) for line in table])
    return found


def plain_kept(own):
    """Return the basis of the rows that each of many drawn rounds leaves as they are."""
    rng = random.Random(1)
    bends = []
    for _ in range(30):
        row, told = sums.home(rng, own, 0)
        table = sums.matrix(own, 0, row, told)
        bends += [[table[p][q] - (p == q) for p in range(places(own))] for q in range(places(own))]
    return sums.crossing(bends, places(own))


KEPT = {own: plain_kept(own) for own in SOME}


def kept_rows(own, row, thing):
    """Return whether thing is rows as of is_kept_rows, on drawn states and shares."""
    n = places(own)
    if type(thing) is not tuple or len(thing) != len(own[1]) or not all(plain_steps.state(one, n) for one in thing):
        return False
    if thing[0] != row:
        return False
    rng = random.Random(2)
    for k, (_, arrows) in enumerate(own[1]):
        for numbers in drawn_states(own, k):
            before = sum(a * b for a, b in zip(worth(thing[k]), numbers))
            for step, end in arrows:
                rows = sums.draw_shares(rng, own[0][step])
                behind = plain_steps.move(own[0][step][0], rows, numbers)
                if sum(a * b for a, b in zip(worth(thing[end]), behind)) != before:
                    return False
    return True


class Spaces(unittest.TestCase):
    def test_against_drawn_ways(self):
        sizes = set()
        for own in SOME:
            for k in range(len(own[1])):
                told = shares.standing_space(own, k)
                self.assertEqual(told, sums.basis(drawn_states(own, k)))
                sizes.add((places(own), len(told)))
        self.assertLessEqual({(1, 1), (2, 1), (2, 2), (3, 1), (3, 2), (3, 3), (4, 3), (4, 4)}, sizes)

    def test_the_beginning_holds_all(self):
        for own in SOME:
            n = places(own)
            units = tuple(tuple(E if p == q else O for q in range(n)) for p in range(n))
            self.assertEqual(shares.standing_space(own, 0), units)

    def test_no_such_stand(self):
        for own, stand in ((PULLED, 1), (PULLED, -1), (COPIED, 2)):
            with self.assertRaises(NoPlace) as caught:
                shares.standing_space(own, stand)
            self.assertEqual(caught.exception.place, stand)


class Kept(unittest.TestCase):
    def test_against_the_rows_that_each_round_leaves_as_they_are(self):
        sizes = set()
        for own in SOME:
            self.assertEqual(shares.kept_sums(own), KEPT[own])
            sizes.add(len(KEPT[own]))
        self.assertLessEqual({0, 1, 2}, sizes)

    def test_stays_kept(self):
        rng = random.Random(4)
        for own in SOME:
            n = places(own)
            rows = [((0, 1),) * n, ((1, n),) * n] + [plain_steps.draw_state(rng, n) for _ in range(3)]
            for factors in ((1, 0), (2, -3), (Fraction(1, 2), 5)):
                pairs = list(zip(factors, KEPT[own]))
                numbers = [sum((factor * worth(row)[p] for factor, row in pairs), Fraction(0)) for p in range(n)]
                rows.append(tuple(plain_steps.pair_of(number) for number in numbers))
            for row in rows:
                right = len(sums.basis([worth(row)] + [worth(one) for one in KEPT[own]])) == len(KEPT[own])
                self.assertIs(shares.stays_kept(own, row), right)
                self.check_rows(own, row, right)

    def check_rows(self, own, row, right):
        if not right:
            self.assertRaises(CanNot, shares.kept_rows, own, row)
            return
        thing = shares.kept_rows(own, row)
        self.assertEqual(thing[0], row)
        self.assertIs(kept_rows(own, row, thing), True)
        self.assertIs(shares.is_kept_rows(own, row, thing), True)

    def test_many_rows_against_the_words(self):
        rng = random.Random(5)
        right = 0
        for own in SOME:
            for row in KEPT[own] + (((1, 2),) * places(own),):
                thing = tuple(row if k == 0 else rng.choice(KEPT[own] + (row,)) for k in range(len(own[1])))
                self.assertIs(shares.is_kept_rows(own, row, thing), kept_rows(own, row, thing))
                right += kept_rows(own, row, thing)
        self.assertGreater(right, 20)

    def test_what_can_not_stand_does_not_count(self):
        self.assertIs(shares.is_kept_rows(COPIED, (E, O), ((E, O), ((7, 1), (-6, 1)))), True)
        self.assertIs(shares.is_kept_rows(COPIED, (E, O), ((E, O), ((7, 1), (-5, 1)))), False)

    def test_things_of_every_kind(self):
        for own, row in ((PULLED, (E, (1, 2))), (COPIED, (E, O)), (COPIED, (O, O)), (STILL, ((1, 1), (1, 2)))):
            thing = shares.kept_rows(own, row)
            check_kind(self, lambda one: shares.is_kept_rows(own, row, one), lambda one: kept_rows(own, row, one),
                       thing)
        self.assertIs(shares.is_kept_rows(EITHER, (E, O), ((E, O),)), False)

    def test_many_places(self):
        n = 9
        own = ((((tuple((p,) for p in range(n))), None),), (("any", ((0, 0),)),))
        row = tuple((p, 1) for p in range(n))
        self.assertIs(shares.is_kept_rows(own, row, (row,)), True)
        self.assertIs(shares.is_kept_rows(own, row, (row[::-1],)), False)


class Agreed(unittest.TestCase):
    def test_against_kept_rows_and_long_runs(self):
        kinds = set()
        for own in SOME:
            if not agree(own):
                self.assertRaises(Unfit, shares.agreed_sum, own)
                kinds.add("apart")
            elif KEPT[own] == ():
                self.assertRaises(CanNot, shares.agreed_sum, own)
                kinds.add("none")
            else:
                row = shares.agreed_sum(own)
                self.assertEqual(len(KEPT[own]), 1)
                self.assertEqual(sum(worth(row)), 1)
                self.assertIs(shares.stays_kept(own, row), True)
                self.check_runs(own, worth(row))
                kinds.add("agreed")
        self.assertEqual(kinds, {"apart", "none", "agreed"})

    def check_runs(self, own, row):
        rng = random.Random(6)
        way, told, _ = sums.draw_way(rng, own, 0, 400)
        start = [float(rng.randint(-5, 5)) for _ in row]
        numbers = start
        for step, rows in zip(plain.way(own, 0, way)[0], told):
            looks = own[0][step][0]
            numbers = [sum(a[0] / a[1] * numbers[q] for a, q in zip(rows[p], looks[p])) for p in range(len(row))]
        right = sum(float(a) * b for a, b in zip(row, start))
        self.assertLess(max(abs(number - right) for number in numbers), 1e-3)

    def test_the_edges(self):
        self.assertEqual(shares.agreed_sum(LONE), (E,))
        self.assertEqual(shares.agreed_sum(LONE_OURS), (E,))
        self.assertRaises(Unfit, shares.agreed_sum, SWAP)
        self.assertRaises(CanNot, shares.agreed_sum, MIX)
        # Told, the same LOOKS agree; a choice of ours is anybody's here.
        self.assertEqual(shares.agreed_sum(PULLED), ((2, 3), (1, 3)))
        self.assertRaises(Unfit, shares.agreed_sum, STILL)
        self.assertEqual(shares.kept_sums(STILL), ((E, (1, 2)),))


def draw_loop(rng, own):
    row, told, k = sums.draw_way(rng, own, 0, rng.randint(0, 4))
    ring, turns = (), ()
    while ring == () or plain.way(own, k, ring)[1][-1] != k:
        more, rows, _ = sums.draw_way(rng, own, plain.way(own, k, ring)[1][-1], 1)
        ring, turns = ring + more, turns + rows
    return row, told, ring, turns


class Loops(unittest.TestCase):
    def test_loop_sum_against_numbers(self):
        rng = random.Random(7)
        kinds = set()
        for own in SOME:
            for _ in range(3):
                loop = draw_loop(rng, own)
                self.assertIs(shares.is_loop(own, loop), True)
                right = sums.loop_end(own, loop)
                kinds.add((right is None, loop[0] == ()))
                if right is None:
                    self.assertRaises(CanNot, shares.loop_sum, own, loop)
                else:
                    self.check_sum(own, loop, right)
        self.assertEqual(len(kinds), 4)

    def check_sum(self, own, loop, right):
        row = shares.loop_sum(own, loop)
        self.assertIs(plain_steps.state(row, places(own)), True)
        self.assertEqual(sum(worth(row)), 1)
        self.assertLess(max(abs(float(a) - b) for a, b in zip(worth(row), right)), 1e-6)
        if loop[0] == ():
            # Exactly: the ring leaves it as it is.
            self.assertEqual(sums.applied(worth(row), sums.matrix(own, 0, loop[2], loop[3])), worth(row))

    def test_numbers_that_the_row_has_brought_together_stay_so(self):
        own = (((((0, 1), (0, 1)), None), (((0,), (1,)), None)), (("any", ((0, 0), (1, 0))),))
        even, odd = (((1, 2),) * 2,) * 2, (((1, 2),) * 2, ((1, 3), (2, 3)))
        stay = (((E,), (E,)),)
        self.assertEqual(shares.loop_sum(own, ((0,), (even,), (1,), stay)), ((1, 2), (1, 2)))
        self.assertRaises(CanNot, shares.loop_sum, own, ((0,), (odd,), (1,), stay))
        self.assertRaises(CanNot, shares.loop_sum, own, ((), (), (1,), stay))
        self.assertRaises(CanNot, shares.loop_sum, SWAP, ((), (), (0,), stay))
        self.assertEqual(shares.loop_sum(own, ((), (), (1, 1, 0), stay * 2 + (odd,))), ((2, 5), (3, 5)))

    def test_rings_gone_round_several_times(self):
        even, odd = (((1, 2),) * 2,) * 2, (((1, 4), (3, 4)),) * 2
        once = ((), (), (0,), (odd,))
        self.assertEqual(shares.loop_sum(MIX, once), ((1, 4), (3, 4)))
        self.assertEqual(shares.loop_sum(MIX, ((), (), (0,) * 7, (odd,) * 7)), ((1, 4), (3, 4)))
        self.assertEqual(shares.loop_sum(MIX, ((0,), (even,), (0, 0), (odd, even))), ((1, 2), (1, 2)))
        turned = ((0,), (DUO[0][0][1] or (((E,),) * 3),), (0, 0, 0, 0), (((E,),) * 3,) * 4)
        self.assertIs(shares.is_loop(DUO, turned), True)
        self.assertIs(shares.is_loop(DUO, turned[:2] + ((), ())), False)
        self.assertIs(shares.is_loop(MIX, ((), (), (), ())), False)
        self.assertIs(shares.is_loop(DUO, turned[:2] + ((0, 0, 0), (((E,),) * 3,) * 3)), False)

    def test_eight_hundred_arrows_and_one_more(self):
        rows = ((((1, 24), (23, 24)), ((1, 2), (1, 2))),)
        for many, right in ((800, True), (801, False)):
            self.assertIs(shares.is_loop(MIX, ((0,) * many, rows * many, (0,), rows)), right)
            self.assertIs(shares.is_loop(MIX, ((), (), (0,) * many, rows * many)), right)
        self.assertEqual(shares.loop_sum(MIX, ((0,) * 800, rows * 800, (0,) * 800, rows * 800)),
                         shares.loop_sum(MIX, ((), (), (0,), rows)))

    def test_bottoms_of_24_and_25(self):
        for bottom, right in ((23, True), (24, True), (25, False)):
            rows = ((((1, bottom), (bottom - 1, bottom)), ((1, 2), (1, 2))),)
            self.assertIs(shares.is_loop(MIX, ((), (), (0,), rows)), right)
            self.assertIs(shares.is_loop(MIX, ((0,), rows, (0,), ((((1, 2),) * 2,) * 2,))), right)
        told = (((0, 1), (0, 1)), (((1, 25), (24, 25)), ((1, 2), (1, 2))))
        own = ((told,), MIX[1])
        self.assertIs(shares.is_loop(own, ((), (), (0,), (told[1],))), True)
        self.assertIs(shares.is_loop(own, ((), (), (0,), (PULL[1],))), False)

    def test_things_of_every_kind(self):
        rng = random.Random(8)
        for own in (PULLED, EITHER, COPIED, MIX, DUO, LONE):
            thing = draw_loop(rng, own)
            check_kind(self, lambda one: shares.is_loop(own, one), lambda one: sums.loop(own, one), thing)
        even = (((1, 2),) * 2,) * 2
        check_kind(self, lambda one: shares.is_loop(MIX, one), lambda one: sums.loop(MIX, one),
                   ((0,), (even,), (0, 0), (even, even)))


class Ends(unittest.TestCase):
    def two_ends(self, own, thing):
        if type(thing) is not tuple or len(thing) != 2 or not all(sums.loop(own, loop) for loop in thing):
            return False
        ends = [sums.loop_end(own, loop) for loop in thing]
        return None not in ends and max(abs(a - b) for a, b in zip(*ends)) > 1e-6

    def test_agreed_sum_and_two_ends_never_both(self):
        kinds = set()
        for own in SOME:
            if not agree(own):
                self.assertRaises(Unfit, shares.two_ends, own)
                kinds.add("apart")
            elif KEPT[own]:
                self.assertRaises(CanNot, shares.two_ends, own)
                kinds.add("agreed")
            else:
                thing = shares.two_ends(own)
                self.assertIs(shares.is_two_ends(own, thing), True)
                self.assertIs(self.two_ends(own, thing), True)
                self.assertRaises(CanNot, shares.agreed_sum, own)
                kinds.add("two")
        self.assertEqual(kinds, {"apart", "agreed", "two"})

    def test_larger_machines(self):
        met = 0
        for own in drawn_machines(1003, 60, 6, 8, more=3):
            if agree(own) and shares.kept_sums(own) == ():
                self.assertIs(self.two_ends(own, shares.two_ends(own)), True)
                met += 1
        self.assertGreater(met, 5)

    def test_many_pairs_against_numbers(self):
        rng = random.Random(9)
        right = 0
        for own in SOME:
            for _ in range(4):
                thing = (draw_loop(rng, own), draw_loop(rng, own))
                self.assertIs(shares.is_two_ends(own, thing), self.two_ends(own, thing))
                right += self.two_ends(own, thing)
        self.assertGreater(right, 20)

    def test_things_of_every_kind(self):
        for own in (EITHER, MIX):
            thing = shares.two_ends(own)
            check_kind(self, lambda one: shares.is_two_ends(own, one), lambda one: self.two_ends(own, one), thing)
        stay = ((), (), (0,), (((E,), (E,)),))
        self.assertIs(shares.is_two_ends(SWAP, (stay, stay)), False)


class Calls(unittest.TestCase):
    def test_every_row_of_arguments(self):
        for own in (PULLED, EITHER, COPIED, MIX, SWAP, TOLD, LONE):
            for function in (shares.kept_sums, shares.agreed_sum, shares.two_ends):
                check_call(self, function, {"machine": own})
            for stand in (0, 1):
                check_call(self, shares.standing_space, {"machine": own, "stand": stand})
            row = ((1, 1), (1, 2))[:places(own)]
            check_call(self, shares.stays_kept, {"machine": own, "row": row})
            check_call(self, shares.kept_rows, {"machine": own, "row": row})
            for thing in ((row,), (row, ((1, 2), (1, 2))), None):
                check_call(self, shares.is_kept_rows, {"machine": own, "row": row, "thing": thing})
            loop = draw_loop(random.Random(10), own)
            check_call(self, shares.loop_sum, {"machine": own, "loop": loop})
            for thing in (loop, (loop, loop), None):
                check_call(self, shares.is_loop, {"machine": own, "thing": thing})
                check_call(self, shares.is_two_ends, {"machine": own, "thing": thing})


if __name__ == "__main__":
    unittest.main()
