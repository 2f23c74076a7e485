"""Section 5: steps in numbers."""

import random
import unittest
from fractions import Fraction

from nearercamps.errors import CanNot, Unfit
from nearercamps.steps import even_step, free_step, is_mean, is_state, is_step, is_table, least_share, move_ranges
from nearercamps.steps import moved, moved_by, row_step, shares_for, spread_of, step_of, table_of
from tests import plain_steps as plain
from tests.calls import check_call
from tests.support import as_lists, check_kind

HALF, THIRD, NOUGHT, UNIT = (1, 2), (1, 3), (0, 1), (1, 1)
NEAR = (((0, 1), (0, 1, 2), (2,)), None)
TOLD = (NEAR[0], ((HALF, HALF), ((1, 6), HALF, THIRD), (UNIT,)))
START = ((0, 1), (1, 1), (3, 1))
GREAT = 10 ** 30


def worths(state):
    return [plain.worth(number) for number in state]


def drawn(seed, many, told=None):
    """Yield drawn pairs (STEP, STATE)."""
    rng = random.Random(seed)
    for k in range(many):
        n = rng.randint(1, 6)
        yield plain.draw_step(rng, n, told, k % 3 == 0), plain.draw_state(rng, n)


class Kinds(unittest.TestCase):
    def test_is_step(self):
        two = (((1,), (0, 1)), ((UNIT,), ((2, 5), (3, 5))))
        for right in (NEAR, TOLD, (((0,),), None), (((0,),), ((UNIT,),)), two):
            n = len(right[0])
            check_kind(self, lambda thing: is_step(thing, n), lambda thing: plain.step(thing, n), right)
            for count in (n + 1, n - 1, 10 ** 20):
                self.assertIs(is_step(right, count), False)

    def test_shares_that_are_none(self):
        wrong = [((HALF, HALF),), (((2, 4), HALF), (UNIT,)), ((HALF, THIRD), (UNIT,)), ((UNIT, NOUGHT), (UNIT,))]
        wrong += [(((3, 2), (-1, 2)), (UNIT,)), (((1, -2), HALF), (UNIT,)), ((HALF, HALF), ((2, 2),)), ()]
        wrong += [((HALF, HALF), (UNIT,), (UNIT,)), ((HALF,), (UNIT,)), ([HALF, HALF], (UNIT,)), ((1, 2), (UNIT,))]
        wrong += [((HALF, [1, 2]), (UNIT,)), (((True, 2), HALF), (UNIT,)), ((HALF, HALF), ((1, True),)), True, 0, ""]
        for shares in wrong:
            self.assertIs(is_step((((0, 1), (1,)), shares), 2), False)
        self.assertIs(is_step((((0, 1), (1,)), ((HALF, HALF), (UNIT,))), 2), True)

    def test_is_step_of_great_numbers(self):
        tiny = (1, 10 ** 400)
        rest = (10 ** 400 - 1, 10 ** 400)
        self.assertIs(is_step((((0, 1), (1,)), ((tiny, rest), (UNIT,))), 2), True)
        self.assertIs(is_step((((0, 1), (1,)), ((tiny, tiny), (UNIT,))), 2), False)

    def test_is_state(self):
        for right in (START, ((-5, 3),), ((10 ** 50, 10 ** 49 + 1), NOUGHT), ((7, 2), (-GREAT, 1), (1, GREAT), NOUGHT)):
            n = len(right)
            check_kind(self, lambda thing: is_state(thing, n), lambda thing: plain.state(thing, n), right)
            self.assertIs(is_state(right, n + 1), False)
        wrong = [(0, 2), (2, 4), (1, 0), (1, -1), (-1, -1), (1,), (1, 1, 1), [1, 1], 1, (1, "1"), (None, 1), (True, 1)]
        for number in wrong:
            self.assertIs(is_state((number,), 1), False)

    def test_is_table(self):
        three = ((THIRD, (1, 6), HALF), (NOUGHT, UNIT, NOUGHT), (THIRD,) * 3)
        for right in (((UNIT,),), ((HALF, HALF), (NOUGHT, UNIT)), three):
            n = len(right)
            check_kind(self, lambda thing: is_table(thing, n), lambda thing: plain.table(thing, n), right)
            self.assertIs(is_table(right, n + 1), False)
        wrong = [(HALF, THIRD), ((3, 2), (-1, 2)), (UNIT, (0, 2)), (NOUGHT, NOUGHT), (UNIT,), (UNIT, NOUGHT, NOUGHT)]
        for row in wrong:
            self.assertIs(is_table((row, (UNIT, NOUGHT)), 2), False)


class Made(unittest.TestCase):
    def test_free_and_even_steps(self):
        self.assertEqual(free_step(NEAR[0]), NEAR)
        self.assertEqual(even_step(((0,),)), (((0,),), ((UNIT,),)))
        six = tuple(tuple(range(k + 1)) for k in range(6))
        self.assertEqual(even_step(six), (six, tuple(((1, k + 1),) * (k + 1) for k in range(6))))
        self.assertIs(is_step(even_step(six), 6), True)
        self.assertIs(is_step(free_step(six), 6), True)

    def test_spread(self):
        self.assertEqual(spread_of(START), (3, 1))
        self.assertEqual(spread_of(((5, 7),)), NOUGHT)
        self.assertEqual(spread_of(((GREAT, 1), (-GREAT, 1))), (2 * GREAT, 1))
        self.assertEqual(spread_of(((1, GREAT), (1, GREAT - 1))), (1, GREAT * (GREAT - 1)))
        self.assertEqual(spread_of(((1, 3), (1, 2), (2, 5))), (1, 6))
        for _, state in drawn(1, 60):
            self.assertEqual(plain.worth(spread_of(state)), max(worths(state)) - min(worths(state)))

    def test_least_share(self):
        self.assertEqual(least_share(TOLD), (1, 6))
        self.assertEqual(least_share(even_step(((0,),))), UNIT)
        for step, _ in drawn(2, 60, True):
            every = [plain.worth(share) for row in step[1] for share in row]
            self.assertEqual(plain.worth(least_share(step)), min(every))


class Moves(unittest.TestCase):
    def test_moved_against_sums(self):
        for step, state in drawn(3, 120, True):
            expected = [plain.pair_of(number) for number in plain.move(step[0], step[1], worths(state))]
            self.assertEqual(moved(step, state), tuple(expected))
            self.assertIs(is_state(moved(step, state), len(state)), True)

    def test_moved_by_untold_and_told_shares(self):
        rng = random.Random(4)
        for step, state in drawn(4, 80, False):
            shares = plain.draw_shares(rng, step[0])
            expected = tuple(plain.pair_of(number) for number in plain.move(step[0], shares, worths(state)))
            self.assertEqual(moved_by(step, shares, state), expected)
            self.assertEqual(moved_by((step[0], shares), shares, state), expected)

    def test_moved_by_refuses_what_does_not_fit(self):
        even = even_step(NEAR[0])
        wrong = [None, (), even[1][:2], even[1] + ((UNIT,),), ((HALF, HALF), (HALF, HALF), (UNIT,)), 5, "shares"]
        wrong += [((HALF, HALF), (THIRD, THIRD, (2, 6)), (UNIT,)), ((UNIT, NOUGHT), (THIRD,) * 3, (UNIT,))]
        wrong += [((HALF, THIRD), (THIRD,) * 3, (UNIT,)), (((3, 2), (-1, 2)), (THIRD,) * 3, (UNIT,)), ((), (), ())]
        for shares in wrong:
            for step in (NEAR, even):
                with self.assertRaises(Unfit):
                    moved_by(step, shares, START)
        with self.assertRaises(Unfit):
            moved_by(TOLD, even[1], START)
        with self.assertRaises(Unfit):
            moved_by(even, TOLD[1], START)
        self.assertEqual(moved_by(NEAR, TOLD[1], START), moved(TOLD, START))

    def test_told_shares_are_asked_for(self):
        for function, more in ((moved, (START,)), (table_of, ()), (least_share, ())):
            with self.assertRaises(Unfit):
                function(NEAR, *more)
        for steps in ((NEAR,), (TOLD, NEAR), (NEAR, TOLD), (TOLD, TOLD, NEAR)):
            with self.assertRaises(Unfit):
                row_step(steps)

    def test_numbers_at_both_ends_and_greater_ones_again(self):
        step = even_step(((0, 1), (0, 1, 2), (1, 2)))
        state = ((GREAT, GREAT - 1), (-GREAT, 1), (1, GREAT))
        numbers = worths(state)
        for _ in range(12):
            state = moved(step, state)
            numbers = plain.move(step[0], step[1], numbers)
            self.assertEqual(worths(state), numbers)
        self.assertIs(is_state(state, 3), True)
        self.assertEqual(plain.worth(spread_of(state)), max(numbers) - min(numbers))
        tiny = (1, GREAT)
        ranges = move_ranges(free_step(step[0]), state, tiny)
        self.assertEqual([list(map(plain.worth, pair)) for pair in ranges],
                         [list(plain.mean_range([numbers[q] for q in lot], plain.worth(tiny))) for lot in step[0]])
        other = tuple(greatest for _, greatest in ranges)
        shares = shares_for(free_step(step[0]), state, other, tiny)
        self.assertEqual(moved_by(free_step(step[0]), shares, state), other)


class Ranges(unittest.TestCase):
    def bounds(self, step):
        """Return lists of some d: those that a move keeps to, the first of them just so, and greater ones."""
        if step[1] is None:
            most = Fraction(1, max(len(lot) for lot in step[0]))
        else:
            most = min(plain.worth(share) for row in step[1] for share in row)
        kept = [most, most / 3, most * Fraction(7, 10), Fraction(1, GREAT)]
        return kept, [most + Fraction(1, 1000), most * 2, Fraction(3)]

    def test_ranges_against_plain_means(self):
        for step, state in drawn(5, 80):
            kept, missed = self.bounds(step)
            for d in kept:
                ranges = move_ranges(step, state, plain.pair_of(d))
                for place, (least, greatest) in enumerate(ranges):
                    numbers = [plain.worth(state[q]) for q in step[0][place]]
                    if step[1] is None:
                        expected = plain.mean_range(numbers, d)
                    else:
                        mean = sum(plain.worth(share) * number for share, number in zip(step[1][place], numbers))
                        expected = (mean, mean)
                    self.assertEqual((plain.worth(least), plain.worth(greatest)), expected)
            for d in missed:
                with self.assertRaises(Unfit):
                    move_ranges(step, state, plain.pair_of(d))

    def test_just_kept_and_none(self):
        both = (((0, 1), (1,)), None)
        state = (NOUGHT, UNIT)
        self.assertEqual(move_ranges(both, state, HALF), [(HALF, HALF), (UNIT, UNIT)])
        self.assertEqual(move_ranges(TOLD, START, (1, 6)), [(number, number) for number in moved(TOLD, START)])
        with self.assertRaises(Unfit):
            move_ranges(both, state, (500001, 1000000))
        with self.assertRaises(Unfit):
            move_ranges(TOLD, START, (1, 5))
        self.assertEqual(move_ranges((((0,),), None), ((5, 3),), UNIT), [((5, 3), (5, 3))])
        with self.assertRaises(Unfit):
            move_ranges((((0,),), None), ((5, 3),), (2, 1))

    def test_is_mean_and_shares_for(self):
        rng = random.Random(6)
        for step, state in drawn(6, 80):
            kept, missed = self.bounds(step)
            for d in kept:
                pair = plain.pair_of(d)
                ranges = [tuple(map(plain.worth, both)) for both in move_ranges(step, state, pair)]
                self.check_means(rng, step, state, pair, ranges)
            for d in missed:
                self.assertIs(is_mean(step, state, state, plain.pair_of(d)), False)
                with self.assertRaises(CanNot):
                    shares_for(step, state, state, plain.pair_of(d))

    def check_means(self, rng, step, state, d, ranges):
        parts = [Fraction(rng.randint(0, 4), 4) for _ in ranges]
        others = [[least for least, _ in ranges], [greatest for _, greatest in ranges]]
        others.append([least + part * (greatest - least) for part, (least, greatest) in zip(parts, ranges)])
        for numbers in others:
            other = tuple(map(plain.pair_of, numbers))
            self.assertIs(is_mean(step, state, other, d), True)
            shares = shares_for(step, state, other, d)
            self.assertTrue(plain.rows_for(shares, step[0]))
            self.assertGreaterEqual(min(plain.worth(share) for row in shares for share in row), plain.worth(d))
            self.assertEqual(moved_by(step, shares, state), other)
            at = rng.randrange(len(other))
            for off in (ranges[at][0] - Fraction(1, 10 ** 9), ranges[at][1] + Fraction(1, 10 ** 9)):
                wrong = other[:at] + (plain.pair_of(off),) + other[at + 1:]
                self.assertIs(is_mean(step, state, wrong, d), False)
                with self.assertRaises(CanNot):
                    shares_for(step, state, wrong, d)

    def test_told_shares_lead_to_one_state(self):
        self.assertIs(is_mean(TOLD, START, moved(TOLD, START), (1, 6)), True)
        self.assertEqual(shares_for(TOLD, START, moved(TOLD, START), (1, 6)), TOLD[1])
        self.assertIs(is_mean(TOLD, START, moved(TOLD, START), (1, 5)), False)
        self.assertIs(is_mean(TOLD, START, moved(even_step(TOLD[0]), START), (1, 6)), False)
        with self.assertRaises(CanNot):
            shares_for(TOLD, START, moved(TOLD, START), (1, 5))


class Tables(unittest.TestCase):
    def test_tables_and_back(self):
        for step, state in drawn(7, 80, True):
            n = len(state)
            table = table_of(step)
            self.assertIs(is_table(table, n), True)
            for p in range(n):
                shares = dict(zip(step[0][p], step[1][p]))
                self.assertEqual(table[p], tuple(shares.get(q, NOUGHT) for q in range(n)))
            self.assertEqual(step_of(table), step)

    def test_row_step_is_the_moves_one_after_another(self):
        rng = random.Random(8)
        for _ in range(40):
            n = rng.randint(1, 5)
            steps = tuple(plain.draw_step(rng, n, True, True) for _ in range(rng.randint(1, 5)))
            state = plain.draw_state(rng, n)
            behind = state
            for step in steps:
                behind = moved(step, behind)
            self.assertEqual(moved(row_step(steps), state), behind)
            self.assertIs(is_step(row_step(steps), n), True)

    def test_row_step_of_one_and_of_sixty(self):
        step = even_step(((0, 1), (1, 2), (0, 2)))
        self.assertEqual(row_step((step,)), step)
        state, behind = START, START
        for _ in range(60):
            behind = moved(step, behind)
        many = row_step((step,) * 60)
        self.assertEqual(moved(many, state), behind)
        self.assertEqual(many[0], ((0, 1, 2),) * 3)

    def test_order_of_steps(self):
        hear, pass_on = even_step(((0,), (0,), (2,))), even_step(((0,), (1,), (1,)))
        self.assertEqual(row_step((hear, pass_on))[0], ((0,), (0,), (0,)))
        self.assertEqual(row_step((pass_on, hear))[0], ((0,), (0,), (1,)))


class Calls(unittest.TestCase):
    def test_each_function_by_point_2(self):
        even = even_step(NEAR[0])
        for step in (NEAR, TOLD, even):
            other = moved(even, START)
            for d in ((1, 6), (1, 100), HALF, (2, 1)):
                check_call(self, move_ranges, {"step": step, "state": START, "d": d})
                for function in (is_mean, shares_for):
                    check_call(self, function, {"step": step, "state": START, "other": other, "d": d})
            check_call(self, moved, {"step": step, "state": START})
            for shares in (even[1], TOLD[1], None, ()):
                check_call(self, moved_by, {"step": step, "shares": shares, "state": START})
            for function in (table_of, least_share):
                check_call(self, function, {"step": step})
            check_call(self, row_step, {"steps": (step, even)})
            check_call(self, is_step, {"thing": step, "n": 3})
            check_call(self, free_step, {"looks": step[0]})
            check_call(self, even_step, {"looks": step[0]})
        check_call(self, spread_of, {"state": START})
        check_call(self, step_of, {"table": table_of(even)})
        check_call(self, is_state, {"thing": START, "n": 3})
        check_call(self, is_table, {"thing": table_of(even), "n": 3})

    def test_things_in_lists_are_none(self):
        even = even_step(NEAR[0])
        self.assertIs(is_step(as_lists(even), 3), False)
        self.assertIs(is_state(as_lists(START), 3), False)
        self.assertIs(is_table(as_lists(table_of(even)), 3), False)


if __name__ == "__main__":
    unittest.main()
