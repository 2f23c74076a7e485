"""Section 8: camps."""

import random
import unittest

from nearercamps.camps import all_camps, are_within, common_places, greatest_camps, hangs_on, in_camps, is_camps
from nearercamps.camps import kills_all, lasting, led, led_along, left_alive, life_along, longest_alone, renamed_camps
from nearercamps.errors import Unfit
from nearercamps.looks import comes_together_alone, is_lot, many_looks, stand_still
from nearercamps.machines import one_choice, one_round, places_of, renamed
from tests import plain_machines as plain
from tests import plain_steps
from tests.calls import check_call
from tests.drawn import DUO, FIRST, LONE, NAMED, SECOND, SIX_TURN, TOLD, TURN, WILD, drawn_machines, drawn_row
from tests.support import as_lists, check_kind

SPLIT = ((0, 1), (2,))


def drawn_looks(seed, many, most=5):
    rng = random.Random(seed)
    return [plain_steps.draw_looks(rng, rng.randint(1, most), k % 3 > 0) for k in range(many)]


def plain_greatest(some):
    return tuple(sorted(one for one in set(some) if not any(plain.within(one, two) and one != two for two in some)))


class Kinds(unittest.TestCase):
    def test_is_camps(self):
        rights = [(SPLIT, 3), (((0,), (1,)), 2), (((0, 3), (1, 2)), 4), (((1,), (2,)), 10 ** 20), (((0, 2), (1,)), 3)]
        for right, n in rights:
            check_kind(self, lambda thing: is_camps(thing, n), lambda thing: plain.camps(thing, n), right)
        for thing in (((1,), (0,)), ((0, 1), (1,)), ((0,), (0,)), ((0, 2), (1, 2)), ((), (0,)), ((0,), ()), ((0,), [1]),
                      ((0,), (1,), (2,)), ((0,),), ((False,), (1,)), ((0,), (True,)), ((1, 0), (2,)), ((0,), (3,))):
            self.assertIs(is_camps(thing, 3), False)
        self.assertIs(is_camps(((0,), (1,)), 1), False)

    def test_is_camps_beyond_the_bounds(self):
        self.assertIs(is_camps((tuple(range(0, 900, 2)), tuple(range(1, 900, 2))), 900), True)
        self.assertIs(is_camps((tuple(range(0, 900, 2)), tuple(range(1, 900, 2)) + (900,)), 900), False)
        self.assertIs(is_camps((tuple(range(450)), tuple(range(449, 900))), 900), False)


class AllCamps(unittest.TestCase):
    def test_all_from_one_to_six_places(self):
        self.assertEqual([len(all_camps(n)) for n in range(1, 7)], [0, 1, 6, 25, 90, 301])
        for n in range(1, 7):
            self.assertEqual(all_camps(n), plain.every_camps(n))
            self.assertTrue(all(is_camps(camps, n) for camps in all_camps(n)))

    def test_in_camps(self):
        lots = plain_steps.lots_of(4)
        for lot in lots:
            for one in lots:
                if set(lot) & set(one):
                    with self.assertRaises(Unfit):
                        in_camps(lot, one)
                else:
                    self.assertEqual(in_camps(lot, one), tuple(sorted((lot, one))))

    def test_within(self):
        every = all_camps(4)
        for camps in every:
            for other in every:
                self.assertIs(are_within(camps, other), plain.within(camps, other))
        self.assertIs(are_within(((1,), (2,)), ((0, 2), (1,))), True)
        self.assertIs(are_within(SPLIT, SPLIT), True)

    def test_greatest(self):
        rng = random.Random(1)
        every = all_camps(5)
        for many in (0, 1, 2, 5, 20, 60):
            for _ in range(6):
                some = tuple(rng.sample(every, many))
                self.assertEqual(greatest_camps(some), plain_greatest(some))
                self.assertEqual(greatest_camps(some + some[:2]), plain_greatest(some))
        self.assertEqual(greatest_camps(()), ())
        self.assertEqual(len(greatest_camps(tuple(all_camps(6)))), 31)

    def test_renamed(self):
        rng = random.Random(2)
        for camps in all_camps(4):
            order = rng.sample(range(4), 4)
            expected = tuple(sorted(tuple(sorted(order[p] for p in lot)) for lot in camps))
            self.assertEqual(renamed_camps(camps, tuple(order)), expected)
        self.assertEqual(renamed_camps(((0,), (1, 2)), (2, 0, 1)), ((0, 1), (2,)))


class Led(unittest.TestCase):
    def test_led_by_what_a_move_makes_of_numbers(self):
        for looks in drawn_looks(3, 60):
            for camps in all_camps(len(looks)):
                self.assertEqual(led(looks, camps), plain.led(looks, camps))

    def test_led_of_camps_that_die_or_change_sides(self):
        self.assertIs(led(FIRST[0], SPLIT), None)
        self.assertEqual(led(((1,), (0,)), ((0,), (1,))), ((0,), (1,)))
        self.assertEqual(led(((2,), (0,), (0,)), ((0,), (2,))), ((0,), (1, 2)))
        self.assertIs(led(((0, 1), (0, 1)), ((0,), (1,))), None)

    def test_along_rows(self):
        rng = random.Random(4)
        for own in drawn_machines(4, 60, 4):
            for stand in range(len(own[1])):
                row = drawn_row(rng, own, stand, rng.randint(0, 8))
                for camps in all_camps(places_of(own)):
                    self.assertEqual(led_along(own, stand, row, camps), plain.led_along(own, stand, row, camps))
                    lives = [k for k in range(len(row) + 1) if plain.led_along(own, stand, row[:k], camps)]
                    self.assertEqual(life_along(own, stand, row, camps), max(lives))

    def test_over_the_empty_row(self):
        for own in NAMED:
            n = places_of(own)
            for camps in all_camps(n):
                self.assertEqual(led_along(own, 0, (), camps), camps)
                self.assertEqual(life_along(own, 0, (), camps), 0)
            self.assertEqual(left_alive(own, 0, ()), plain_greatest(all_camps(n)))
            self.assertIs(kills_all(own, 0, ()), n == 1)
            self.assertEqual([hangs_on(own, 0, (), p) for p in range(n)], [(p,) for p in range(n)])
            self.assertEqual(common_places(own, 0, ()), (0,) if n == 1 else ())

    def test_life_of_the_last_move(self):
        self.assertEqual(life_along(WILD, 0, (0,), SPLIT), 0)
        self.assertEqual(life_along(WILD, 0, (1, 0), SPLIT), 2)
        self.assertEqual(life_along(WILD, 0, (1, 1, 1), SPLIT), 1)
        self.assertEqual(life_along(TURN, 1, (0,) * 50, SPLIT), 50)

    def test_what_is_left_alive(self):
        rng = random.Random(5)
        for own in drawn_machines(5, 80, 4):
            stand = rng.randrange(len(own[1]))
            row = drawn_row(rng, own, stand, rng.randint(0, 6))
            ends = [plain.led_along(own, stand, row, camps) for camps in all_camps(places_of(own))]
            self.assertEqual(left_alive(own, stand, row), plain_greatest([end for end in ends if end]))
            self.assertIs(kills_all(own, stand, row), not any(ends))

    def test_one_place_and_six_places(self):
        self.assertEqual(left_alive(LONE, 0, (0, 0)), ())
        self.assertIs(kills_all(LONE, 0, ()), True)
        self.assertEqual([lasting(((0,),)), longest_alone(((0,),)), common_places(LONE, 0, (0,))], [(), 0, (0,)])
        row = (0, 0, 0)
        ends = {plain.led_along(SIX_TURN, 0, row, camps) for camps in all_camps(6)} - {None}
        self.assertEqual(left_alive(SIX_TURN, 0, row), plain_greatest(ends))


class HangsOn(unittest.TestCase):
    def plain_hangs(self, own, stand, row, place):
        steps, _ = plain.way(own, stand, row)
        places = {place}
        for step in reversed(steps):
            places = {seen for one in places for seen in own[0][step][0][one]}
        return places

    def test_ways_gone_back(self):
        rng = random.Random(6)
        for own in drawn_machines(6, 60, 5):
            n = places_of(own)
            stand = rng.randrange(len(own[1]))
            row = drawn_row(rng, own, stand, rng.randint(0, 7))
            hung = [self.plain_hangs(own, stand, row, p) for p in range(n)]
            for p in range(n):
                self.assertEqual(hangs_on(own, stand, row, p), tuple(sorted(hung[p])))
                self.assertIs(is_lot(hangs_on(own, stand, row, p), n), True)
            self.assertEqual(common_places(own, stand, row), tuple(sorted(set.intersection(*hung))))

    def test_a_row_kills_all_exactly_if_any_two_hang_on_a_common_place(self):
        rng = random.Random(7)
        found = set()
        for own in drawn_machines(7, 120, 5):
            n = places_of(own)
            row = drawn_row(rng, own, 0, rng.randint(0, 7))
            hung = [set(hangs_on(own, 0, row, p)) for p in range(n)]
            common = all(hung[p] & hung[q] for p in range(n) for q in range(n))
            self.assertIs(kills_all(own, 0, row), common)
            found.add(common)
        self.assertEqual(found, {True, False})

    def test_any_two_may_hang_on_a_common_place_and_all_on_none(self):
        own = one_choice("any", ((((0, 1), (1, 2), (0, 2)), None),))
        self.assertEqual(common_places(own, 0, (0,)), ())
        self.assertIs(kills_all(own, 0, (0,)), True)
        self.assertEqual(common_places(own, 0, (0, 0)), (0, 1, 2))


class Lasting(unittest.TestCase):
    def test_against_plain_counting(self):
        for looks in drawn_looks(8, 80):
            every = all_camps(len(looks))
            lives = {}
            for camps in every:
                met = [camps]
                while met[-1] is not None and met[-1] not in met[:-1]:
                    met.append(plain.led(looks, met[-1]))
                lives[camps] = None if met[-1] is not None else len(met) - 2
            self.assertEqual(lasting(looks), tuple(camps for camps in every if lives[camps] is None))
            others = [life for life in lives.values() if life is not None]
            self.assertEqual(longest_alone(looks), max(others, default=0))

    def test_none_lasts_exactly_if_all_come_together_alone(self):
        for looks in drawn_looks(9, 150):
            self.assertIs(lasting(looks) == (), comes_together_alone(looks))

    def test_standing_still_and_long_chains(self):
        self.assertEqual(lasting(stand_still(3)), tuple(all_camps(3)))
        self.assertEqual(longest_alone(stand_still(3)), 0)
        chain = tuple((max(0, p - 1),) for p in range(6))
        self.assertEqual(lasting(chain), ())
        self.assertEqual(longest_alone(chain), 4)
        self.assertEqual(longest_alone(((0, 1), (0, 1))), 0)

    def test_lasting_ones_among_others(self):
        looks = ((0,), (1,), (0, 1), (2,))
        for camps in lasting(looks):
            self.assertIsNotNone(led(many_looks(looks, 60), camps))
        for camps in all_camps(4):
            if camps not in lasting(looks):
                self.assertIsNone(led(many_looks(looks, longest_alone(looks) + 1), camps))


class Guarantees(unittest.TestCase):
    def test_camps_within_others_are_led_within(self):
        for looks in drawn_looks(10, 30, 4):
            for camps in all_camps(len(looks)):
                for other in all_camps(len(looks)):
                    if are_within(camps, other) and led(looks, camps) is not None:
                        self.assertIs(are_within(led(looks, camps), led(looks, other)), True)

    def test_none_live_longer_than_all_greatest_ones(self):
        rng = random.Random(11)
        for own in drawn_machines(11, 40, 4):
            every = all_camps(places_of(own))
            row = drawn_row(rng, own, 0, 8)
            lives = {camps: life_along(own, 0, row, camps) for camps in every}
            for camps in every:
                self.assertLessEqual(lives[camps], max(lives[great] for great in greatest_camps(tuple(every))))

    def test_renamed_machines_lead_renamed_camps(self):
        rng = random.Random(12)
        for own in drawn_machines(12, 40, 4):
            n = places_of(own)
            order = tuple(rng.sample(range(n), n))
            row = drawn_row(rng, own, 0, 3)
            for camps in all_camps(n):
                behind = led_along(own, 0, row, camps)
                new = led_along(renamed(own, order), 0, row, renamed_camps(camps, order))
                self.assertEqual(new, None if behind is None else renamed_camps(behind, order))


class Calls(unittest.TestCase):
    def test_each_function_by_point_2(self):
        for own in (WILD, DUO, TURN, TOLD, LONE):
            n = places_of(own)
            looks = own[0][0][0]
            check_call(self, all_camps, {"n": n})
            for function in (lasting, longest_alone):
                check_call(self, function, {"looks": looks})
            for row in ((), (0,), (0, 0, 0)):
                for function in (left_alive, kills_all, common_places):
                    check_call(self, function, {"machine": own, "stand": 0, "row": row})
                check_call(self, hangs_on, {"machine": own, "stand": 0, "row": row, "place": n - 1})
            check_call(self, greatest_camps, {"some": tuple(all_camps(n))})
            for camps in all_camps(n):
                check_call(self, is_camps, {"thing": camps, "n": n})
                check_call(self, is_camps, {"thing": as_lists(camps), "n": n})
                check_call(self, led, {"looks": looks, "camps": camps})
                check_call(self, in_camps, {"lot": camps[0], "one": camps[1]})
                check_call(self, in_camps, {"lot": camps[0], "one": camps[0]})
                check_call(self, are_within, {"camps": camps, "other": all_camps(n)[0]})
                check_call(self, renamed_camps, {"camps": camps, "order": tuple(reversed(range(n)))})
                for function in (led_along, life_along):
                    check_call(self, function, {"machine": own, "stand": 0, "row": (0, 0), "camps": camps})
                    check_call(self, function, {"machine": own, "stand": 0, "row": (), "camps": camps})

    def test_machines_of_section_7(self):
        steps = (FIRST, SECOND)
        self.assertIs(kills_all(one_choice("any", steps), 0, (1, 1)), True)
        self.assertIs(kills_all(one_round(steps), 0, (0,) * 40), False)


if __name__ == "__main__":
    unittest.main()
