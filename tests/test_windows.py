"""Point 11: how long camps live, and the shortest row along which all die."""

import random
import unittest
from fractions import Fraction

from nearercamps import windows
from nearercamps.errors import TooMuch, Unfit
from nearercamps.machines import choices
from nearercamps.runs import camp_state, run_by, spreads
from tests import plain_machines as plain
from tests.calls import check_call
from tests.drawn import DUO, LONE, LONE_OURS, NAMED, SIX_TURN, TAME, TOLD, TURN, TWO, WILD, drawn_machines, drawn_row
from tests.support import check_kind

CIRCLE = (((((1,), (2,), (0,)), None),), (("any", ((0, 0),)),))
LOOSE = (((((0, 1), (2,), (0,)), None),), (("any", ((0, 0),)),))
LONG = (((((0,), (0,), (1,), (2,)), None), (((0,), (0, 1), (1, 2), (2, 3)), None)),
        (("any", ((0, 1), (1, 1))), ("any", ((0, 0), (1, 0)))))
OF_ANY = drawn_machines(101, 60, owners=("any",)) + [WILD, TURN, TWO, LONE, CIRCLE, LOOSE, LONG]
OF_OURS = drawn_machines(102, 40, owners=("ours",)) + [TAME, LONE_OURS, CIRCLE, LOOSE, TURN]


def places(own):
    return len(own[0][0][0])


def living(own, row):
    """Return the CAMPS that live along a row from the beginning."""
    return tuple(some for some in plain.every_camps(places(own)) if plain.led_along(own, 0, row, some) is not None)


def alive_for(own, some):
    """Return the most arrows along which CAMPS live, all spots gone through arrow by arrow; None without an end."""
    alive, arrows = {(0, some)}, 0
    while True:
        ends = set()
        for k, there in alive:
            for step, end in own[1][k][1]:
                going = plain.led(own[0][step][0], there)
                ends |= {(end, going)} if going is not None else set()
        if not ends:
            return arrows
        arrows += 1
        # On the way through more spots than there are some spot comes again.
        if arrows > len(own[1]) * len(plain.every_camps(places(own))):
            return None
        alive = ends


def longest(own):
    lives = [alive_for(own, some) for some in plain.every_camps(places(own))]
    return None if None in lives else max(lives, default=0)


def slow(own, thing):
    if type(thing) is not tuple or len(thing) != 2 or not plain.camps(thing[0], places(own)):
        return False
    if not plain.row(own, 0, thing[1]) or len(thing[1]) != longest(own):
        return False
    return plain.led_along(own, 0, thing[1], thing[0]) is not None


def sets_met(own, most):
    """Return how many pairs (stand, set of CAMPS) rows from the beginning lead to, up to one more than most."""
    met = {(0, tuple(plain.every_camps(places(own))))}
    going = list(met)
    for k, alive in going:
        for step, end in own[1][k][1]:
            ends = {plain.led(own[0][step][0], some) for some in alive} - {None}
            pair = (end, tuple(sorted(ends)))
            if pair not in met:
                met.add(pair)
                going.append(pair)
        if len(met) > most:
            break
    return len(met)


class Rows(unittest.TestCase):
    def test_living_and_is_mix_against_plain_counting(self):
        rng = random.Random(7)
        for own in NAMED + (CIRCLE, LOOSE, LONG, SIX_TURN) + tuple(drawn_machines(103, 40)):
            for many in (0, 1, 2, 3, 5, 9):
                row = drawn_row(rng, own, 0, many)
                self.assertEqual(windows.living(own, row), living(own, row))
                self.assertIs(windows.is_mix(own, row), living(own, row) == ())

    def test_the_edges(self):
        self.assertEqual(windows.living(LONE, ()), ())
        self.assertIs(windows.is_mix(LONE, ()), True)
        self.assertIs(windows.is_mix(LONE, (1,)), False)
        self.assertEqual(windows.living(CIRCLE, ()), tuple(plain.every_camps(3)))
        self.assertIs(windows.is_mix(CIRCLE, ()), False)
        self.assertEqual(windows.living(SIX_TURN, ()), tuple(plain.every_camps(6)))
        self.assertEqual(len(windows.living(SIX_TURN, ())), 301)
        self.assertEqual(windows.living(CIRCLE, (0,) * 300), tuple(plain.every_camps(3)))
        self.assertIs(windows.is_mix(LOOSE, (0,) * 300), True)
        self.assertIs(windows.is_mix(WILD, (0, 1) * 150), False)

    def test_what_is_no_row(self):
        for own, row in ((WILD, (2,)), (WILD, (-1,)), (WILD, (0, 1, 2)), (TURN, (1,)), (LONE, (0, 0, 1)),
                         (DUO, (0, 2))):
            with self.assertRaises(Unfit):
                windows.living(own, row)
            self.assertIs(windows.is_mix(own, row), False)

    def test_every_row_of_arguments(self):
        for own in (WILD, DUO, TOLD, LONE):
            for row in ((), (0,), (1, 0), (0, 0, 0), (5,)):
                check_call(self, windows.living, {"machine": own, "row": row})
                check_call(self, windows.is_mix, {"machine": own, "row": row})


class Lives(unittest.TestCase):
    def test_against_plain_counting(self):
        for own in OF_ANY:
            lives = {some: alive_for(own, some) for some in plain.every_camps(places(own))}
            for some, life in lives.items():
                self.assertEqual(windows.longest_by(own, some), life)
            life = longest(own)
            self.assertEqual(windows.longest_life(own), life)
            self.assertEqual(windows.window(own), None if life is None else life + 1)
            counts = tuple(sum(k is None or k >= many for k in lives.values()) for many in range(61))
            self.assertEqual(windows.life_counts(own, 60), counts)
            self.assertEqual(windows.life_counts(own, 0), counts[:1])
            self.assertEqual(windows.life_counts(own, 7), counts[:8])

    def test_the_window_against_all_rows_one_by_one(self):
        for own in OF_ANY:
            life = windows.longest_life(own)
            for many in range(6):
                rows = plain.rows(own, 0, many) if len(own[1]) < 6 else []
                alive = [row for row in rows if living(own, row)]
                if rows and places(own) > 1:
                    self.assertEqual(bool(alive), life is None or many <= life)
                along = {some for row in rows for some in living(own, row)}
                self.assertEqual(windows.life_counts(own, many)[-1], len(along))

    def test_the_drawn_ones_are_of_all_kinds(self):
        lives = [windows.longest_life(own) for own in OF_ANY]
        self.assertGreater(lives.count(None), 5)
        self.assertGreater(len([life for life in lives if life is not None and life > 1]), 5)

    def test_the_edges(self):
        self.assertEqual((windows.longest_life(LONE), windows.window(LONE)), (0, 1))
        self.assertEqual(windows.life_counts(LONE, 3), (0, 0, 0, 0))
        self.assertIsNone(windows.slow_row(LONE))
        self.assertIsNone(windows.slow_row(CIRCLE))
        self.assertEqual(windows.life_counts(CIRCLE, 60), (6,) * 61)
        six = ((SIX_TURN[0][0],), (("any", ((0, 0),)),))
        self.assertEqual((windows.longest_life(six), windows.window(six)), (4, 5))
        self.assertEqual(windows.longest_by(six, ((0, 1, 2, 3, 4), (5,))), 0)
        self.assertEqual(windows.longest_by(six, ((0,), (1, 2, 3, 4, 5))), 4)

    def test_a_stand_of_ours_without_a_choice_is_no_choice_of_ours(self):
        own = (LOOSE[0], (("ours", ((0, 0),)),))
        self.assertEqual(windows.longest_life(own), 1)
        self.assertEqual(windows.shortest_mix(own), (0, 0))

    def test_choices_of_ours_are_refused(self):
        for own in (TAME, DUO, TOLD, LONE_OURS):
            some = ((0,), (1,))
            for call in (lambda: windows.longest_by(own, some), lambda: windows.longest_life(own),
                         lambda: windows.window(own), lambda: windows.slow_row(own),
                         lambda: windows.is_slow_row(own, 7), lambda: windows.is_slow_row(own, (some, (0,))),
                         lambda: windows.life_counts(own, 3)):
                with self.assertRaises(Unfit):
                    call()

    def test_every_row_of_arguments(self):
        for own in (WILD, TURN, LOOSE, LONE, DUO, LONG):
            check_call(self, windows.longest_life, {"machine": own})
            check_call(self, windows.window, {"machine": own})
            check_call(self, windows.slow_row, {"machine": own})
            check_call(self, windows.life_counts, {"machine": own, "many": 4})
            if own != LONE:
                check_call(self, windows.longest_by, {"machine": own, "camps": ((0,), (2,))})
            check_call(self, windows.is_slow_row, {"machine": own, "thing": (((0,), (1, 2)), (0,))})


class SlowRows(unittest.TestCase):
    def test_slow_rows_are_such_by_the_words(self):
        found = 0
        for own in OF_ANY:
            told = windows.slow_row(own)
            if longest(own) is None or places(own) == 1:
                self.assertIsNone(told)
            else:
                self.assertIs(windows.is_slow_row(own, told), True)
                self.assertIs(slow(own, told), True)
                found += 1
        self.assertGreater(found, 15)

    def test_things_of_every_kind(self):
        for own in (LOOSE, LONG, OF_ANY[3], OF_ANY[8]):
            right = windows.slow_row(own)
            if right is not None:
                check_kind(self, lambda thing: windows.is_slow_row(own, thing), lambda thing: slow(own, thing), right)
        self.assertIs(windows.is_slow_row(CIRCLE, (((0,), (1,)), (0, 0, 0))), False)
        self.assertIs(windows.is_slow_row(LONE, (((0,), (1,)), ())), False)
        self.assertIs(windows.is_slow_row(LOOSE, None), False)

    def test_all_pairs_of_camps_and_rows(self):
        for own in (LOOSE, LONG, TURN):
            rows = [row for many in range(4) for row in plain.rows(own, 0, many)]
            for some in plain.every_camps(places(own)):
                for row in rows:
                    self.assertIs(windows.is_slow_row(own, (some, row)), slow(own, (some, row)))

    def test_the_spread_can_stay_along_a_slow_row(self):
        for own in OF_ANY:
            told = windows.slow_row(own)
            if told is not None:
                camps, row = told
                self.assertEqual(set(spreads(own, row, camp_state(places(own), camps))), {(1, 1)})


class Spreads(unittest.TestCase):
    def test_in_every_run_the_spread_falls_within_the_window(self):
        rng = random.Random(12)
        for own in OF_ANY:
            many = windows.window(own)
            if many is None or many > 12:
                continue
            for _ in range(5):
                row = drawn_row(rng, own, 0, many)
                shares = [self.shares(own[0][step]) for step in plain.way(own, 0, row)[0]]
                least = min(Fraction(*share) for rows in shares for lot in rows for share in lot)
                start = tuple((rng.choice([0, 1, 1, 5]), 1) for _ in range(places(own)))
                states = run_by(own, row, start, shares)
                first, last = (max(Fraction(*k) for k in own) - min(Fraction(*k) for k in own)
                               for own in (states[0], states[-1]))
                part = windows.spread_left((least.numerator, least.denominator), many, 1)
                self.assertLessEqual(last, first * Fraction(*part))

    def shares(self, step):
        looks, own = step
        if own is not None:
            return own
        return tuple(((1, len(lot) + 1),) * (len(lot) - 1) + ((2, len(lot) + 1),) if len(lot) > 1 else ((1, 1),)
                     for lot in looks)

    def test_spread_left_against_fractions(self):
        for top, bottom in ((0, 1), (1, 1), (1, 2), (1, 3), (2, 7), (10 ** 29, 10 ** 30 - 1)):
            for moves in (0, 1, 2, 5, 60):
                for times in (0, 1, 3, 60):
                    right = (1 - Fraction(top, bottom) ** moves) ** times
                    told = windows.spread_left((top, bottom), moves, times)
                    self.assertEqual(told, (right.numerator, right.denominator))

    def test_nought_to_the_power_nought(self):
        self.assertEqual(windows.spread_left((0, 1), 0, 0), (1, 1))
        self.assertEqual(windows.spread_left((0, 1), 0, 1), (0, 1))
        self.assertEqual(windows.spread_left((0, 1), 1, 5), (1, 1))
        self.assertEqual(windows.spread_left((1, 1), 60, 60), (0, 1))

    def test_every_row_of_arguments(self):
        check_call(self, windows.spread_left, {"share": (2, 3), "moves": 4, "times": 5})


class Mixes(unittest.TestCase):
    def check(self, own):
        told = windows.shortest_mix(own)
        if told is None:
            self.assertIsNone(plain_mix(own, 6))
            self.assertNotIn((), [living(own, row) for row in [(0,) * 40]])
        elif len(told) < 9:
            self.assertEqual(told, plain_mix(own, len(told)))
        else:
            self.assertIsNone(plain_mix(own, 7))
            self.assertEqual(living(own, told), ())
        return told

    def test_against_all_rows_one_by_one(self):
        told = [self.check(own) for own in OF_OURS]
        self.assertIn(None, told)
        self.assertGreater(len([row for row in told if row is not None and len(row) > 1]), 5)

    def test_none_is_told_only_if_no_pair_is_without_camps(self):
        for own in OF_OURS:
            if windows.shortest_mix(own) is None:
                met = {(0, tuple(plain.every_camps(places(own))))}
                for _ in range(400):
                    met |= {(end, tuple(sorted({plain.led(own[0][step][0], some) for some in alive} - {None})))
                            for k, alive in met for step, end in own[1][k][1]}
                    if len(met) > 300:
                        break
                self.assertNotIn((), [alive for _, alive in met])

    def test_the_least_of_the_shortest(self):
        fold, swap = (((0,), (0,), (2,)), None), (((0,), (2,), (1,)), None)
        own = ((swap, fold), (("ours", ((0, 0), (1, 0))),))
        self.assertEqual(windows.shortest_mix(own), (1, 0, 1))
        own = ((fold, swap, fold), (("ours", ((0, 0), (1, 0), (2, 0))),))
        self.assertEqual(windows.shortest_mix(own), (0, 1, 0))
        self.assertEqual(windows.shortest_mix(LONE), ())

    def test_choices_of_anybody_are_refused(self):
        for own in (WILD, DUO, TWO):
            with self.assertRaises(Unfit):
                windows.shortest_mix(own)

    def test_exactly_four_thousand_pairs_and_more(self):
        # Places 0 and 1 stand, so no row kills all; from one stand rows lead to 80 unlike sets of CAMPS.
        parts = (((2,), (3,), (0,)), ((2,), (4,), (4,)), ((0,), (3,), (4,)), ((3,), (3, 4), (4,)), ((2,), (3,), (1, 4)))
        steps = tuple((((0,), (1,)) + part, None) for part in parts) + ((((0,), (1,), (2,), (3,), (4,)), None),)
        choice = tuple((k, 0) for k in range(5))
        self.assertEqual(sets_met((steps, (("ours", choice),)), 4000), 80)
        still = [("any", ((5, k + 1),)) for k in range(49)]
        own = (steps, tuple(still) + (("ours", choice),))
        self.assertEqual(sets_met(own, 4000), 4000)
        self.assertIsNone(windows.shortest_mix(own))
        more = (steps, tuple(still) + (("any", ((5, 50),)), ("ours", choice)))
        with self.assertRaises(TooMuch):
            windows.shortest_mix(more)

    def test_a_mix_is_told_where_no_more_pairs_are_met(self):
        rng = random.Random(4)
        for _ in range(6):
            orders = [rng.sample(range(5), 5) for _ in range(3)]
            looks = [tuple((rng.randrange(5),) if rng.random() < 0.2 else (p,) for p in order) for order in orders]
            steps = tuple((own, None) for own in looks)
            own = (steps, (("ours", ((0, 1), (1, 1))), ("ours", ((1, 0), (2, 0)))))
            self.assertLessEqual(sets_met(own, 4000), 4000)
            self.check(own)

    def test_every_row_of_arguments(self):
        for own in (TAME, LONE_OURS, CIRCLE, WILD):
            check_call(self, windows.shortest_mix, {"machine": own})


def plain_mix(own, most):
    """Return the first row of at most so many arrows along which no CAMPS live, shorter rows first."""
    for many in range(most + 1):
        for row in plain.rows(own, 0, many):
            if not living(own, row):
                return row
    return None


class Kinds(unittest.TestCase):
    def test_choices_of_drawn_ones(self):
        for own in OF_ANY:
            self.assertEqual(choices(own, "ours"), ())
        for own in OF_OURS:
            self.assertEqual(choices(own, "any"), ())


if __name__ == "__main__":
    unittest.main()
