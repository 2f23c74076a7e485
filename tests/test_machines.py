"""Section 7: machines."""

import random
import unittest
from itertools import permutations

from nearercamps.errors import CanNot, NoPlace, TooMuch, Unfit
from nearercamps.machines import choices, go_alike, is_machine, is_row, merged, one_after_other, one_choice, one_round
from nearercamps.machines import places_of, renamed, round_lengths, rounds, row_end, rows_of, within_rounds
from nearercamps.together import surely_together
from tests import plain_machines as plain
from tests import plain_steps
from tests.calls import check_call
from tests.drawn import DUO, FIRST, LONE, NAMED, SECOND, SIX_TURN, TAME, TOLD, TURN, TWO, WILD
from tests.drawn import drawn_machines, drawn_row
from tests.support import as_lists, check_kind

WIDE = ((SECOND, FIRST, SECOND), (("any", ((1, 1), (1, 2))), ("ours", ((0, 0),)), ("any", ((2, 0),))))


def ladder(counts, more=0):
    """Return a MACHINE of one place with so many arrows from each stand to the next one; more lead from 0 to 0."""
    most = max(counts) + more
    steps = ((((0,),), None),) * most
    stands = [("any", tuple((k, (at + 1) % len(counts)) for k in range(many))) for at, many in enumerate(counts)]
    extra = tuple((k, 0) for k in range(more))
    stands[0] = ("any", stands[0][1] + tuple(own for own in extra if own not in stands[0][1]))
    return steps, tuple(stands)


def rows_by_steps(own):
    """Return the rounds, told by their STEPS, ascending."""
    return sorted(tuple(plain.way(own, 0, row)[0]) for row in rounds(own))


class Kinds(unittest.TestCase):
    def test_is_machine_of_right_ones_with_one_flaw(self):
        for right in (TURN, DUO, TOLD, LONE, WIDE):
            n = places_of(right)
            check_kind(self, lambda thing: is_machine(thing, n), lambda thing: plain.machine(thing, n), right)
            for count in (n + 1, n - 1, 10 ** 20):
                self.assertIs(is_machine(right, count), False)
            self.assertIs(is_machine(as_lists(right), n), False)

    def test_is_machine_of_drawn_ones(self):
        for own in drawn_machines(1, 60):
            self.assertIs(plain.machine(own, places_of(own)), True)
            self.assertIs(is_machine(own, places_of(own)), True)

    def test_rings_that_leave_out_the_beginning(self):
        step = FIRST
        wrong = [(("any", ((0, 1),)), ("any", ((0, 1),))),
                 (("any", ((0, 1),)), ("any", ((0, 2),)), ("any", ((0, 1), (0, 0)))),
                 (("any", ((0, 0), (0, 1))), ("any", ((0, 0), (0, 1)))), (("any", ((0, 0),)), ("any", ((0, 0),))),
                 (("any", ((0, 0),)), ("any", ((0, 2),)), ("any", ((0, 1),)))]
        for stands in wrong:
            self.assertIs(is_machine(((step,), stands), 3), False)
        self.assertIs(is_machine(((step,), (("any", ((0, 1), (0, 0))), ("ours", ((0, 0),)))), 3), True)
        self.assertIs(is_machine(((step,), (("any", ((0, 0), (0, 0))),)), 3), False)

    def test_is_machine_beyond_the_bounds(self):
        many = 3000
        stands = tuple(("any", ((0, (k + 1) % many),)) for k in range(many))
        self.assertIs(is_machine(((FIRST,) * 20, stands), 3), True)
        self.assertIs(is_machine(((FIRST,) * 20, stands[:-1] + (("any", ((0, 5),)),)), 3), False)
        self.assertIs(is_machine(((FIRST,) * 500, (("ours", tuple((k, 0) for k in range(500))),)), 3), True)
        wide = (tuple((k,) for k in range(40)), None)
        self.assertIs(is_machine(((wide,), (("any", ((0, 0),)),)), 40), True)

    def test_is_row(self):
        for own in (TURN, DUO, TWO):
            for stand in range(len(own[1])):
                for right in ((0, 0, 0), (0,), ()):
                    check_kind(self, lambda thing: is_row(own, stand, thing),
                               lambda thing: plain.row(own, stand, thing), right)
        self.assertIs(is_row(TURN, 0, (0,) * 20000), True)
        self.assertIs(is_row(TURN, 0, (0,) * 20000 + (1,)), False)
        self.assertIs(is_row(TURN, 0, [0]), False)
        self.assertIs(is_row(TURN, 0, (False,)), False)
        self.assertIs(is_row(WILD, 0, (-1,)), False)


class Made(unittest.TestCase):
    def test_one_round_and_one_choice(self):
        steps = (FIRST, SECOND, FIRST)
        self.assertEqual(one_round(steps), (steps, (("any", ((0, 1),)), ("any", ((1, 2),)), ("any", ((2, 0),)))))
        self.assertEqual(one_round((FIRST,)), ((FIRST,), (("any", ((0, 0),)),)))
        self.assertEqual(one_choice("ours", steps), (steps, (("ours", ((0, 0), (1, 0), (2, 0))),)))
        self.assertEqual(one_choice("ours", (FIRST,)), ((FIRST,), (("ours", ((0, 0),)),)))
        self.assertEqual(one_choice("any", (FIRST,)), ((FIRST,), (("any", ((0, 0),)),)))

    def test_places_and_choices(self):
        self.assertEqual([places_of(own) for own in (LONE, TOLD, WILD, SIX_TURN)], [1, 2, 3, 6])
        self.assertEqual([choices(DUO, owner) for owner in ("ours", "any")], [(1,), (0,)])
        self.assertEqual([choices(TURN, owner) for owner in ("ours", "any")], [(), ()])
        self.assertEqual(choices(one_choice("ours", (FIRST,)), "ours"), ())
        self.assertEqual(choices(TWO, "any"), (0, 1))
        for own in drawn_machines(2, 40):
            for owner in ("ours", "any"):
                expected = [k for k in range(len(own[1])) if own[1][k][0] == owner and len(own[1][k][1]) >= 2]
                self.assertEqual(choices(own, owner), tuple(expected))

    def test_renamed(self):
        rng = random.Random(3)
        self.assertEqual(renamed(TURN, (2, 1, 0))[0], (SECOND, FIRST))
        for own in drawn_machines(3, 60, 5):
            n = places_of(own)
            order = rng.sample(range(n), n)
            new = renamed(own, tuple(order))
            self.assertIs(plain.machine(new, n), True)
            self.assertEqual(new[1], own[1])
            for step, new_step in zip(own[0], new[0]):
                self.assertEqual(step[1] is None, new_step[1] is None)
                for p in range(n):
                    shares = step[1][p] if step[1] else [None] * n
                    new_shares = new_step[1][order[p]] if step[1] else [None] * n
                    expected = {(order[q], share) for q, share in zip(step[0][p], shares)}
                    self.assertEqual(set(zip(new_step[0][order[p]], new_shares)), expected)
            back = tuple(order.index(p) for p in range(n))
            self.assertEqual(renamed(new, back), own)
            self.assertEqual(renamed(own, tuple(range(n))), own)

    def test_one_after_other(self):
        drawn = drawn_machines(4, 40, 2, 4)
        for one, other in zip(drawn, drawn[1:]):
            if places_of(one) != places_of(other):
                with self.assertRaises(Unfit):
                    one_after_other(one, other)
                continue
            both = one_after_other(one, other)
            self.assertIs(is_machine(both, places_of(one)), True)
            self.assertEqual(both[0], one[0] + other[0])
            self.assertEqual([own[0] for own in both[1]], [own[0] for own in one[1] + other[1]])
            expected = [first + second for first in plain.rounds(one) for second in plain.rounds(other)]
            self.assertEqual(rounds(both), sorted(expected))
            for row in rounds(both):
                steps, _ = plain.way(both, 0, row)
                cut = next(k for k in range(len(row)) if row[:k] in plain.rounds(one))
                later = [len(one[0]) + step for step in plain.way(other, 0, row[cut:])[0]]
                self.assertEqual(steps, plain.way(one, 0, row[:cut])[0] + later)

    def test_one_after_other_goes_by_both(self):
        self.assertIs(go_alike(one_after_other(one_round((FIRST,)), one_round((SECOND,))), TURN), True)
        with self.assertRaises(Unfit):
            one_after_other(TURN, TOLD)
        with self.assertRaises(Unfit):
            one_after_other(LONE, TURN)


class Rows(unittest.TestCase):
    def test_rows_and_ends_against_plain_counting(self):
        rng = random.Random(5)
        for own in drawn_machines(5, 40, 2):
            for stand in range(len(own[1])):
                for many in (0, 1, 2, 3):
                    self.assertEqual(rows_of(own, stand, many), plain.rows(own, stand, many))
                row = drawn_row(rng, own, stand, 30)
                self.assertEqual(row_end(own, stand, row), plain.way(own, stand, row)[1][-1])
                self.assertIs(is_row(own, stand, row), True)

    def test_rows_of_no_and_of_sixty_arrows(self):
        self.assertEqual(rows_of(WILD, 0, 0), [()])
        self.assertEqual(row_end(TURN, 1, ()), 1)
        self.assertEqual(rows_of(TURN, 1, 60), [(0,) * 60])
        self.assertEqual(len(rows_of(WILD, 0, 10)), 1024)
        with self.assertRaises(TooMuch):
            rows_of(WILD, 0, 11)
        with self.assertRaises(TooMuch):
            rows_of(WILD, 0, 60)

    def test_two_thousand_rows_and_one_more(self):
        just, above = ladder([5, 5, 5, 2, 2, 2, 2]), ladder([5, 5, 5, 2, 2, 2, 2], 1)
        self.assertEqual(len(rounds(just)), 2000)
        self.assertEqual(len(rows_of(just, 0, 7)), 2000)
        self.assertEqual(len(plain.rounds(above)), 2001)
        for call in (lambda: rounds(above), lambda: rows_of(just, 0, 8), lambda: rows_of(above, 0, 7)):
            with self.assertRaises(TooMuch):
                call()
        longer = ladder([5, 5, 5, 2, 2, 2, 2, 1, 1])
        self.assertEqual([len(rows_of(longer, 0, many)) for many in (7, 8, 9)], [2000] * 3)
        self.assertEqual(len(rounds(longer)), 2000)
        wide = one_choice("any", (((((0,),), None)),) * 2000)
        self.assertEqual(rows_of(wide, 0, 1), [(k,) for k in range(2000)])
        self.assertEqual(rounds(wide), [(k,) for k in range(2000)])
        wider = one_choice("any", (((((0,),), None)),) * 2001)
        for call in (lambda: rounds(wider), lambda: rows_of(wider, 0, 1)):
            with self.assertRaises(TooMuch):
                call()

    def test_rounds_against_plain_counting(self):
        for own in drawn_machines(6, 80, 2, 7):
            every = plain.rounds(own)
            self.assertEqual(rounds(own), every)
            self.assertEqual(round_lengths(own), (min(map(len, every)), max(map(len, every))))

    def test_rounds_of_very_many(self):
        own = ladder([3] * 60)
        with self.assertRaises(TooMuch):
            rounds(own)
        self.assertEqual(round_lengths(own), (60, 60))
        self.assertEqual(round_lengths(ladder([3] * 60, 4)), (1, 60))

    def test_one_stand_and_stands_that_all_lead_home(self):
        self.assertEqual(rounds(LONE), [(0,)])
        self.assertEqual(round_lengths(LONE), (1, 1))
        home = ((FIRST, SECOND), (("any", ((0, 1), (0, 2), (1, 0))), ("any", ((0, 0), (1, 0))), ("ours", ((1, 0),))))
        self.assertEqual(rounds(home), [(0, 0), (0, 1), (1, 0), (2,)])
        self.assertEqual(round_lengths(home), (1, 2))


class Alike(unittest.TestCase):
    def test_against_the_widest_relation(self):
        rng = random.Random(7)
        drawn = drawn_machines(7, 60, 1, 4)
        for own in drawn:
            other = plain.spread_out(rng, own)
            self.assertIs(plain.machine(other, places_of(own)), True)
            self.assertIn(((0, 0), (1, 0)), plain.alike_pairs(own, other))
            self.assertIs(go_alike(own, other), True)
            self.assertIs(go_alike(other, own), True)
            self.assertIs(go_alike(own, own), True)
        found = set()
        for one, other in zip(drawn, drawn[1:] + drawn[:1]):
            expected = ((0, 0), (1, 0)) in plain.alike_pairs(one, other)
            found.add(expected)
            self.assertIs(go_alike(one, other), expected)
        self.assertEqual(found, {True, False})

    def test_what_tells_machines_apart(self):
        self.assertIs(go_alike(WILD, TAME), False)
        self.assertIs(go_alike(one_choice("ours", (FIRST,)), one_choice("any", (FIRST,))), True)
        self.assertIs(go_alike(one_choice("ours", (FIRST, FIRST)), one_choice("any", (FIRST,))), True)
        self.assertIs(go_alike(one_round((FIRST, FIRST)), one_round((FIRST,))), False)
        self.assertIs(go_alike(TURN, one_round((SECOND, FIRST))), False)
        told = (FIRST[0], (((1, 1),),) * 3)
        self.assertIs(go_alike(one_round((FIRST,)), one_round((told,))), False)
        self.assertIs(go_alike(LONE, one_round((FIRST,))), False)
        self.assertIs(go_alike(TWO, DUO), False)

    def test_owners_count_only_where_arrows_are_unlike(self):
        step = ((((0,),), None), (((0,),), (((1, 1),),)))
        ends = (("any", ((0, 0), (1, 0))), ("ours", ((0, 0), (1, 0))))
        one = (step, (("any", ((0, 1), (0, 2))), ends[0], ends[0]))
        other = (step, (("ours", ((0, 1), (0, 2))), ends[0], ends[0]))
        self.assertIs(go_alike(one, other), True)
        third = (step, (("ours", ((0, 1), (0, 2))), ends[0], ends[1]))
        fourth = (step, (("any", ((0, 1), (0, 2))), ends[0], ends[1]))
        self.assertIs(go_alike(third, fourth), False)
        self.assertIs(go_alike(one, third), False)

    def test_merged_by_its_words(self):
        rng = random.Random(8)
        for own in drawn_machines(8, 50, 1, 4) + list(NAMED) + [WIDE]:
            for big in (own, plain.spread_out(rng, own)):
                small = merged(big)
                self.assertIs(plain.machine(small, places_of(big)), True)
                self.assertIn(((0, 0), (1, 0)), plain.alike_pairs(big, small))
                self.check_merged(big, small)
                self.assertEqual(merged(small), small)

    def check_merged(self, big, small):
        pairs = plain.alike_pairs(big, big)
        least = {k: min(j for j in range(len(big[1])) if ((0, k), (0, j)) in pairs) for k in range(len(big[1]))}
        order, steps, stands = [0], [], []
        for k in order:
            owner, arrows = big[1][k]
            told = list(dict.fromkeys((big[0][step], least[end]) for step, end in arrows))
            order += [end for end in dict.fromkeys(end for _, end in told) if end not in order]
            steps += [step for step in dict.fromkeys(step for step, _ in told) if step not in steps]
            stands.append((owner if len(told) > 1 else "any", told))
        numbered = [tuple((steps.index(step), order.index(end)) for step, end in told) for _, told in stands]
        owners = [owner for owner, _ in stands]
        self.assertEqual(small, (tuple(steps), tuple(zip(owners, numbered))))

    def test_merged_leaves_out_steps_that_no_arrow_has(self):
        own = ((SECOND, FIRST, FIRST), (("ours", ((2, 0), (1, 0))),))
        self.assertEqual(merged(own), ((FIRST,), (("any", ((0, 0),)),)))

    def test_alike_machines_have_the_same_answers(self):
        rng = random.Random(9)
        for own in drawn_machines(9, 60, 4, 4):
            other = plain.spread_out(rng, own)
            self.assertIs(surely_together(other), surely_together(own))
            self.assertIs(surely_together(merged(own)), surely_together(own))
            self.assertEqual(round_lengths(other), round_lengths(own))

    def test_long_machines(self):
        many = ((FIRST, SECOND), tuple(("any", ((k % 2, (k + 1) % 2000),)) for k in range(2000)))
        self.assertIs(go_alike(many, many), True)
        self.assertEqual(merged(many), many)
        self.assertEqual(round_lengths(many), (2000, 2000))
        self.assertEqual(len(rounds(many)[0]), 2000)


class Within(unittest.TestCase):
    def plainly(self, own, wants):
        """Return the MACHINE of within_rounds, its arrows being those of the rounds that are left."""
        begin = (0, (0,) * len(wants))
        going = {}
        for row in plain.rounds(own):
            taken, here = [], begin
            for arrow in row:
                step, end = own[1][here[0]][1][arrow]
                counts = tuple(0 if step == place else count + 1 for count, (place, _) in zip(here[1], wants))
                if any(count >= most for count, (_, most) in zip(counts, wants)):
                    break
                to = begin if end == 0 else (end, counts)
                taken.append((here, (arrow, step, to)))
                here = to
            else:
                for spot, arrow in taken:
                    going.setdefault(spot, set()).add(arrow)
        if not going:
            return None
        order = [begin]
        for spot in order:
            order += [to for to in dict.fromkeys(to for _, _, to in sorted(going[spot])) if to not in order]
        owners = [own[1][stand][0] for stand, _ in order]
        arrows = [tuple((step, order.index(to)) for _, step, to in sorted(going[spot])) for spot in order]
        return own[0], tuple(zip(owners, arrows))

    def test_against_the_rounds_that_are_left(self):
        rng = random.Random(10)
        refused = 0
        for own in drawn_machines(10, 300, 1, 6, more=3):
            wants = tuple((rng.randrange(len(own[0])), rng.randint(1, 4)) for _ in range(rng.randint(0, 3)))
            expected = self.plainly(own, wants)
            if expected is None:
                refused += 1
                with self.assertRaises(CanNot):
                    within_rounds(own, wants)
            else:
                self.assertEqual(within_rounds(own, wants), expected)
                self.assertIs(is_machine(expected, 1), True)
        self.assertGreater(refused, 20)

    def test_no_wants_number_stands_as_met(self):
        self.assertEqual(within_rounds(DUO, ()), DUO)
        own = ((FIRST, SECOND), (("any", ((0, 2), (1, 1))), ("ours", ((1, 0),)), ("any", ((0, 1), (0, 0)))))
        new = within_rounds(own, ())
        self.assertEqual(new[1], (("any", ((0, 1), (1, 2))), ("any", ((0, 2), (0, 0))), ("ours", ((1, 0),))))

    def test_counts_start_anew_at_the_beginning(self):
        self.assertEqual(within_rounds(WILD, ((0, 2),)), WILD)
        self.assertEqual(within_rounds(WILD, ((0, 1),)), ((FIRST, SECOND), (("any", ((0, 0),)),)))

    def test_owners_stay(self):
        new = within_rounds(TAME, ((1, 1),))
        self.assertEqual(new, ((FIRST, SECOND), (("ours", ((1, 0),)),)))

    def test_the_last_arrow_counts_too(self):
        self.assertEqual(rounds(within_rounds(TWO, ((0, 2),))), [(0, 0), (0, 1), (1, 0)])
        self.assertEqual(rounds(within_rounds(TWO, ((0, 1),))), [(0, 0)])
        with self.assertRaises(CanNot):
            within_rounds(TURN, ((0, 1),))
        self.assertEqual(within_rounds(TURN, ((0, 2), (1, 2))), TURN)

    def test_equal_steps_at_two_places_are_two(self):
        own = ((FIRST, FIRST), (("any", ((0, 0), (1, 0))),))
        self.assertEqual(within_rounds(own, ((1, 1),))[1], (("any", ((1, 0),)),))
        with self.assertRaises(CanNot):
            within_rounds(own, ((0, 1), (1, 1)))

    def test_no_round_is_left(self):
        with self.assertRaises(CanNot):
            within_rounds(((FIRST, SECOND), (("any", ((0, 0),)),)), ((1, 1),))
        with self.assertRaises(CanNot):
            within_rounds(WILD, ((0, 1), (1, 1)))

    def test_places_come_first(self):
        refused = [(((2, 1),), 2), (((-1, 1),), -1), (((0, 1), (1, 1), (7, 1), (9, 1)), 7), (((5, 3), (4, 1)), 5)]
        for wants, place in refused:
            with self.assertRaises(NoPlace) as held:
                within_rounds(TWO, wants)
            self.assertEqual(held.exception.place, place)
        with self.assertRaises(NoPlace) as held:
            within_rounds(TURN, ((0, 1), (10 ** 20, 1)))
        self.assertEqual(held.exception.place, 10 ** 20)

    def test_eight_wants_of_a_wide_machine(self):
        own = ladder([6] * 6)
        wants = tuple((k, 6) for k in (0, 1, 2, 3, 4, 5, 5, 0))
        new = within_rounds(own, wants)
        self.assertIs(is_machine(new, 1), True)
        self.assertEqual(rows_by_steps(new), sorted(permutations(range(6))))
        with self.assertRaises(CanNot):
            within_rounds(ladder([8] * 6), tuple((k, 6) for k in range(8)))


class Calls(unittest.TestCase):
    def test_each_function_by_point_2(self):
        for own in (WILD, DUO, TURN, TOLD, LONE, WIDE):
            n = places_of(own)
            for function in (places_of, rounds, round_lengths, merged):
                check_call(self, function, {"machine": own})
            for owner in ("ours", "any"):
                check_call(self, choices, {"machine": own, "owner": owner})
                check_call(self, one_choice, {"owner": owner, "steps": own[0]})
            check_call(self, one_round, {"steps": own[0]})
            for other in (own, DUO, TOLD):
                check_call(self, go_alike, {"machine": own, "other": other})
                check_call(self, one_after_other, {"machine": own, "other": other})
            check_call(self, renamed, {"machine": own, "order": tuple(reversed(range(n)))})
            for wants in ((), ((0, 2),), ((0, 1),), ((3, 1),), ((0, 3), (0, 2))):
                check_call(self, within_rounds, {"machine": own, "wants": wants})
            for many in (0, 2, 60):
                check_call(self, rows_of, {"machine": own, "stand": 0, "many": many})
            for row in ((), (0,), (0, 0, 0)):
                check_call(self, row_end, {"machine": own, "stand": 0, "row": row})
                check_call(self, is_row, {"machine": own, "stand": 0, "thing": row})
            check_call(self, is_machine, {"thing": own, "n": n})
            check_call(self, is_machine, {"thing": as_lists(own), "n": n})


if __name__ == "__main__":
    unittest.main()
