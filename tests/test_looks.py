"""Section 4: lots and looks."""

import random
import unittest

from nearercamps.errors import Unfit
from nearercamps.looks import all_lots, behind_looks, comes_together_alone, is_closed, is_looks, is_lot, is_wider
from nearercamps.looks import least_closed, long_sight, lookers_at, lookers_within, many_looks, period_of, seen_from
from nearercamps.looks import stand_still
from tests import plain_steps as plain
from tests.calls import check_call
from tests.support import check_kind

CHAIN, CIRCLE, LOOSE = ((0,), (0,), (1,)), ((1,), (2,), (0,)), ((0, 1), (2,), (0,))


def drawn_looks(seed, many, most=6):
    rng = random.Random(seed)
    return [plain.draw_looks(rng, rng.randint(1, most), k % 2 == 0) for k in range(many)]


class Kinds(unittest.TestCase):
    def test_is_lot(self):
        for right, n in (((0, 2, 3), 4), ((0, 2, 3), 10 ** 20), ((0,), 1), ((0,), 2), ((1,), 3), ((0, 1, 2, 3), 4)):
            check_kind(self, lambda thing: is_lot(thing, n), lambda thing: plain.lot(thing, n), right)
        for n in (1, 2, 3):
            self.assertIs(is_lot((0, 2, 3), n), False)
        self.assertIs(is_lot((10 ** 30,), 10 ** 30 + 1), True)
        self.assertIs(is_lot((10 ** 30,), 10 ** 30), False)
        self.assertIs(is_lot((False, 1), 3), False)
        self.assertIs(is_lot((0, True), 3), False)
        self.assertIs(is_lot(tuple(range(5000)), 5000), True)

    def test_is_looks(self):
        for right in (((0, 1), (2,), (0, 1, 2)), ((0,),), ((1,), (0,)), ((0,), (1,), (0, 1, 2, 3), (2, 3))):
            n = len(right)
            check_kind(self, lambda thing: is_looks(thing, n), lambda thing: plain.looks(thing, n), right)
            for count in (n - 1, n + 1, 10 ** 20):
                self.assertIs(is_looks(right, count), False)
        self.assertIs(is_looks(tuple((k,) for k in range(500)), 500), True)
        self.assertIs(is_looks([(0,)], 1), False)
        self.assertIs(is_looks(([0],), 1), False)
        self.assertIs(is_looks(((0,), ()), 2), False)


class Lots(unittest.TestCase):
    def test_all_lots_from_one_to_eight_places(self):
        self.assertEqual(all_lots(1), [(0,)])
        for n in range(1, 9):
            self.assertEqual(all_lots(n), plain.lots_of(n))
            self.assertEqual(len(all_lots(n)), 2 ** n - 1)
        self.assertEqual(all_lots(3), [(0,), (0, 1), (0, 1, 2), (0, 2), (1,), (1, 2), (2,)])

    def test_who_is_seen_and_who_looks(self):
        for looks in drawn_looks(1, 40):
            n = len(looks)
            for lot in all_lots(n):
                seen = sorted({q for p in lot for q in looks[p]})
                self.assertEqual(seen_from(looks, lot), tuple(seen))
                at = [p for p in range(n) if set(looks[p]) & set(lot)]
                self.assertEqual(lookers_at(looks, lot), tuple(at))
                within = [p for p in range(n) if set(looks[p]) <= set(lot)]
                self.assertEqual(lookers_within(looks, lot), tuple(within))
                self.assertIs(is_closed(looks, lot), set(seen) <= set(lot))

    def test_nobody_may_look(self):
        self.assertEqual(lookers_at(((0,), (0,)), (1,)), ())
        self.assertEqual(lookers_within(((0, 1), (0, 1)), (1,)), ())

    def test_one_place(self):
        one = ((0,),)
        self.assertEqual(stand_still(1), one)
        self.assertEqual([seen_from(one, (0,)), lookers_at(one, (0,)), lookers_within(one, (0,))], [(0,)] * 3)
        self.assertEqual(least_closed(one), [(0,)])
        self.assertEqual(period_of(one, (0,)), 1)
        self.assertIs(comes_together_alone(one), True)
        self.assertIs(long_sight(one, 0), True)

    def test_stand_still(self):
        self.assertEqual(stand_still(3), ((0,), (1,), (2,)))
        self.assertEqual(stand_still(6), tuple((k,) for k in range(6)))

    def test_is_closed_of_all_and_of_one(self):
        self.assertIs(is_closed(CHAIN, (0,)), True)
        self.assertIs(is_closed(CHAIN, (1,)), False)
        self.assertIs(is_closed(CIRCLE, (0, 1)), False)
        self.assertIs(is_closed(CIRCLE, (0, 1, 2)), True)


class ManyMoves(unittest.TestCase):
    def test_behind_looks(self):
        rng = random.Random(2)
        for _ in range(60):
            n = rng.randint(1, 6)
            looks, others = plain.draw_looks(rng, n, True), plain.draw_looks(rng, n)
            expected = tuple(tuple(sorted({q for m in others[p] for q in looks[m]})) for p in range(n))
            self.assertEqual(behind_looks(looks, others), expected)

    def test_the_order_of_both_matters(self):
        first, second = ((0,), (0,), (1,)), ((1,), (2,), (2,))
        self.assertEqual(behind_looks(first, second), ((0,), (1,), (1,)))
        self.assertEqual(behind_looks(second, first), ((1,), (1,), (2,)))

    def test_many_looks_against_ways(self):
        for looks in drawn_looks(3, 25):
            for many in range(0, 9):
                ways = tuple(tuple(sorted(plain.ends_of_ways(looks, p, many))) for p in range(len(looks)))
                self.assertEqual(many_looks(looks, many), ways)

    def test_many_looks_of_no_move_and_of_very_many(self):
        self.assertEqual(many_looks(CIRCLE, 0), stand_still(3))
        self.assertEqual(many_looks(CIRCLE, 1), CIRCLE)
        self.assertEqual(many_looks(CIRCLE, 10 ** 18), many_looks(CIRCLE, 10 ** 18 % 3))
        six = ((1,), (2,), (3,), (4,), (5,), (0,))
        for many in (10 ** 18, 10 ** 18 - 1, 10 ** 17 + 3):
            self.assertEqual(many_looks(six, many), tuple(((p + many) % 6,) for p in range(6)))
        self.assertEqual(many_looks(LOOSE, 10 ** 18), ((0, 1, 2),) * 3)

    def test_long_sight(self):
        for looks in drawn_looks(4, 30):
            for many in (0, 1, 2, 3, 5):
                far = [plain.ends_of_ways(looks, p, many) for p in range(len(looks))]
                self.assertIs(long_sight(looks, many), bool(set.intersection(*far)))
        self.assertIs(long_sight(CHAIN, 0), False)
        self.assertIs(long_sight(CHAIN, 10 ** 18), True)
        self.assertIs(long_sight(CIRCLE, 10 ** 18), False)

    def test_is_wider(self):
        rng = random.Random(5)
        for _ in range(80):
            n = rng.randint(1, 5)
            looks, others = plain.draw_looks(rng, n), plain.draw_looks(rng, n, True)
            self.assertIs(is_wider(looks, others), all(set(others[p]) <= set(looks[p]) for p in range(n)))
            self.assertIs(is_wider(looks, looks), True)
        self.assertIs(is_wider(((0, 1), (0,)), ((0,), (0, 1))), False)


class LeastClosed(unittest.TestCase):
    def test_against_all_closed_lots(self):
        for looks in drawn_looks(6, 120):
            self.assertEqual(least_closed(looks), plain.least_closed(looks))

    def test_several_ascending(self):
        self.assertEqual(least_closed(((0,), (2,), (1,), (3,), (0, 3), (4,))), [(0,), (1, 2), (3,)])
        self.assertEqual(least_closed(stand_still(6)), [(k,) for k in range(6)])

    def test_periods_against_rings(self):
        for looks in drawn_looks(7, 80):
            for lot in least_closed(looks):
                lengths = plain.ring_lengths(looks, lot, 40)
                period = period_of(looks, lot)
                divisors = [k for k in range(1, 41) if all(length % k == 0 for length in lengths)]
                self.assertEqual(period, max(divisors))

    def test_periods_of_one_and_greater(self):
        self.assertEqual(period_of(CHAIN, (0,)), 1)
        self.assertEqual(period_of(CIRCLE, (0, 1, 2)), 3)
        self.assertEqual(period_of(((1,), (0,), (0,)), (0, 1)), 2)
        self.assertEqual(period_of(((1,), (2,), (3,), (4,), (5,), (0,)), (0, 1, 2, 3, 4, 5)), 6)
        self.assertEqual(period_of(((1, 3), (2,), (3,), (0,)), (0, 1, 2, 3)), 2)
        self.assertEqual(period_of(((1, 2), (2,), (0,)), (0, 1, 2)), 1)

    def test_no_period_of_a_lot_that_is_not_least_closed(self):
        for looks in drawn_looks(8, 30, 5):
            for lot in all_lots(len(looks)):
                if lot not in plain.least_closed(looks):
                    with self.assertRaises(Unfit):
                        period_of(looks, lot)
        for looks, lot in ((CHAIN, (0, 1)), (CHAIN, (1,)), (stand_still(2), (0, 1)), (CIRCLE, (0, 1))):
            with self.assertRaises(Unfit):
                period_of(looks, lot)

    def test_comes_together_alone(self):
        self.assertIs(comes_together_alone(CHAIN), True)
        self.assertIs(comes_together_alone(CIRCLE), False)
        self.assertIs(comes_together_alone(stand_still(2)), False)
        self.assertIs(comes_together_alone(((1,), (0,), (0, 1, 2))), False)
        for looks in drawn_looks(9, 120):
            # n * n moves are enough for some place to be seen by all, if ever.
            self.assertIs(comes_together_alone(looks), long_sight(looks, len(looks) ** 2))

    def test_places_of_unlike_least_closed_lots_see_nothing_in_common(self):
        for looks in drawn_looks(10, 40):
            lots = least_closed(looks)
            for one in lots:
                for other in lots:
                    if one != other:
                        self.assertFalse(set(seen_from(many_looks(looks, 7), one)) & set(other))


class Calls(unittest.TestCase):
    def test_each_function_by_point_2(self):
        for looks in (CHAIN, CIRCLE, LOOSE, ((0,),), ((1,), (0,), (2, 3), (0, 3))):
            n = len(looks)
            others = tuple(reversed(looks))
            lots = ((0,), tuple(range(n)))
            for function in (seen_from, lookers_at, lookers_within, is_closed, period_of):
                for lot in lots:
                    check_call(self, function, {"looks": looks, "lot": lot})
            for function in (behind_looks, is_wider):
                check_call(self, function, {"looks": looks, "others": others})
            for function in (many_looks, long_sight):
                for many in (0, 1, 5):
                    check_call(self, function, {"looks": looks, "many": many})
            for function in (least_closed, comes_together_alone):
                check_call(self, function, {"looks": looks})
            for function in (all_lots, stand_still):
                check_call(self, function, {"n": n})
            check_call(self, is_looks, {"thing": looks, "n": n})
            check_call(self, is_lot, {"thing": lots[1], "n": n})
            check_call(self, is_looks, {"thing": list(looks), "n": n})


if __name__ == "__main__":
    unittest.main()
