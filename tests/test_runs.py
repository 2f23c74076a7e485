"""Point 14: runs in numbers."""

import random
import unittest
from fractions import Fraction
from itertools import product

from nearercamps import runs
from nearercamps.errors import NoPlace, Unfit
from tests import plain_machines as plain
from tests.calls import check_call
from tests.drawn import DUO, LONE, NAMED, SIX_TURN, TOLD, TURN, WILD, drawn_machines, drawn_row

MIX = (((0, 1), (0, 1)), None)
PAIR = ((MIX,), (("any", ((0, 0),)),))
SOME = tuple(drawn_machines(401, 60, 4, 5)) + NAMED + (PAIR, SIX_TURN)
FUNCTIONS = {"row_stands": (), "row_moves": (), "row_looks": (), "run_even": ("state",), "run_by": ("state", "shares"),
             "is_run": ("states", "d"), "ranges_after": ("state", "d"), "camps_on_the_way": ("camps",),
             "spreads": ("state",)}


def places(own):
    return len(own[0][0][0])


def quotients(state):
    return [Fraction(*number) for number in state]


def pairs(numbers):
    return tuple((number.numerator, number.denominator) for number in map(Fraction, numbers))


def even_rows(step):
    looks, shares = step
    return shares if shares is not None else tuple(((1, len(lot)),) * len(lot) for lot in looks)


def drawn_rows(rng, step):
    """Return drawn shares for a STEP, the told ones if there are any."""
    looks, shares = step
    if shares is not None:
        return shares
    rows = []
    for lot in looks:
        parts = [rng.randint(1, 6) for _ in lot]
        rows.append(pairs(Fraction(part, sum(parts)) for part in parts))
    return tuple(rows)


def gone(own, row, start, shares):
    """Return the STATES of a run by these shares."""
    states = [quotients(start)]
    for step, rows in zip(plain.way(own, 0, row)[0], shares):
        last = states[-1]
        states.append([sum(Fraction(*share) * last[q] for share, q in zip(parts, lot))
                       for parts, lot in zip(rows, own[0][step][0])])
    return [pairs(state) for state in states]


def looks_behind(own, row):
    """Return the LOOKS of all moves, by the ways back from each place."""
    found = []
    for place in range(places(own)):
        seen = {place}
        for step in reversed(plain.way(own, 0, row)[0]):
            seen = {q for p in seen for q in own[0][step][0][p]}
        found.append(tuple(sorted(seen)))
    return tuple(found)


def start_of(rng, own):
    return pairs(Fraction(rng.randint(-5, 5), rng.randint(1, 4)) for _ in range(places(own)))


class Ways(unittest.TestCase):
    def test_stands_moves_and_looks_against_plain_counting(self):
        rng = random.Random(1)
        for own in SOME:
            for many in (0, 1, 2, 4, 7):
                row = drawn_row(rng, own, 0, many)
                steps, stands = plain.way(own, 0, row)
                self.assertEqual(runs.row_stands(own, row), stands)
                self.assertEqual(runs.row_moves(own, row), steps)
                self.assertEqual(runs.row_looks(own, row), looks_behind(own, row))

    def test_the_edges(self):
        self.assertEqual((runs.row_stands(LONE, ()), runs.row_moves(LONE, ())), ([0], []))
        self.assertEqual(runs.row_looks(WILD, ()), ((0,), (1,), (2,)))
        self.assertEqual(runs.row_looks(LONE, (0,) * 300), ((0,),))
        self.assertEqual(len(runs.row_stands(SIX_TURN, (0,) * 300)), 301)
        self.assertEqual(runs.row_moves(TURN, (0,) * 300), [0, 1] * 150)
        self.assertEqual(runs.row_looks(PAIR, (0,) * 300), ((0, 1), (0, 1)))


class Refused(unittest.TestCase):
    def test_each_function_tells_the_first_that_is_none_before_all_else(self):
        cases = [(WILD, (0, 2, 3), 2), (WILD, (-1,), -1), (TURN, (0, 0, 1), 1), (LONE, (1,), 1), (DUO, (1, 1, 5, 7), 5),
                 (TOLD, (1, 1), None), (TOLD, (0, 1), 1), (TOLD, (0, 0, 0, -2, 3), -2), (WILD, (0,) * 299 + (7,), 7)]
        values = {"state": ((0, 1),), "shares": (), "states": (), "d": (7, 1), "camps": ((0,), (1,))}
        for own, row, place in cases:
            for name, more in FUNCTIONS.items():
                arguments = {"machine": own, "row": row, **{key: values[key] for key in more}}
                if place is not None:
                    with self.assertRaises(NoPlace) as caught:
                        getattr(runs, name)(**arguments)
                    self.assertEqual(caught.exception.place, place)

    def test_shares_that_do_not_fit(self):
        start, rows, whole = ((0, 1), (1, 1)), (((1, 2), (1, 2)), ((1, 3), (2, 3))), ((1, 1),)
        for shares in ((), (rows, rows), (rows[:1],), (rows + rows[:1],), ((rows[0], ((1, 3), (1, 3))),),
                       ((rows[0], ((0, 1), (1, 1))),), ((rows[0], ((3, 2), (-1, 2))),), ((rows[0], whole),)):
            with self.assertRaises(Unfit):
                runs.run_by(PAIR, (0,), start, shares)
        self.assertRaises(Unfit, runs.run_by, PAIR, (), start, (rows,))
        own = TOLD[0][0][1]
        self.assertEqual(runs.run_by(TOLD, (0,), start, (own,)), runs.run_even(TOLD, (0,), start))
        with self.assertRaises(Unfit):
            runs.run_by(TOLD, (0,), start, ((((2, 3), (1, 3)), whole),))
        with self.assertRaises(Unfit):
            runs.run_by(PAIR, (0, 0, 0), start, (rows, (rows[0], whole), rows))


class Numbers(unittest.TestCase):
    def test_runs_against_fractions(self):
        rng = random.Random(2)
        for own in SOME:
            for many in (0, 1, 3, 6):
                row, start = drawn_row(rng, own, 0, many), start_of(rng, own)
                steps = [own[0][step] for step in plain.way(own, 0, row)[0]]
                even = gone(own, row, start, [even_rows(step) for step in steps])
                self.assertEqual(runs.run_even(own, row, start), even)
                told = [max(quotients(state)) - min(quotients(state)) for state in even]
                self.assertEqual(runs.spreads(own, row, start), list(pairs(told)))
                shares = tuple(drawn_rows(rng, step) for step in steps)
                self.assertEqual(runs.run_by(own, row, start, shares), gone(own, row, start, shares))
                self.assertEqual(runs.run_by(own, row, start, list(shares)), gone(own, row, start, shares))

    def test_the_edges(self):
        start = ((5, 2), (-1, 3), (0, 1))
        self.assertEqual(runs.run_even(WILD, (), start), [start])
        self.assertEqual(runs.run_by(WILD, (), start, ()), [start])
        self.assertEqual(runs.spreads(WILD, (), start), [(17, 6)])
        self.assertEqual(runs.run_even(LONE, (0,) * 300, ((7, 3),)), [((7, 3),)] * 301)
        self.assertEqual(runs.spreads(LONE, (0,) * 300, ((7, 3),)), [(0, 1)] * 301)
        long = runs.run_even(PAIR, (0,) * 300, ((0, 1), (1, 1)))
        self.assertEqual(long[1:], [((1, 2), (1, 2))] * 300)
        most = 10 ** 30
        self.assertEqual(runs.spreads(PAIR, (0,), ((-most, 1), (most, 1))), [(2 * most, 1), (0, 1)])

    def test_is_run_against_corners_and_means(self):
        rng = random.Random(3)
        told = {True: 0, False: 0}
        for own in SOME:
            for many in (0, 1, 2):
                row, start = drawn_row(rng, own, 0, many), start_of(rng, own)
                steps = [own[0][step] for step in plain.way(own, 0, row)[0]]
                shares = tuple(drawn_rows(rng, step) for step in steps)
                states = gone(own, row, start, shares)
                least = min([Fraction(*share) for rows in shares for lot in rows for share in lot], default=Fraction(1))
                d = pairs([least])[0]
                self.assertIs(runs.is_run(own, row, states, d), True)
                self.assertIs(runs.is_run(own, row, tuple(states), d), True)
                for other in (pairs([least * 2])[0], (1, 2), (1, 1), (2, 1), (1, 100)):
                    right = self.can_all(steps, states, other)
                    self.assertIs(runs.is_run(own, row, states, other), right)
                    told[right] += 1
                for wrong in (states[1:], states + states[-1:], [], states[:-1]):
                    self.assertIs(runs.is_run(own, row, wrong, d), False)
                off = [pairs(number + Fraction(1, 7) for number in quotients(state)) for state in states]
                for k in range(1, len(states)):
                    mixed = states[:k] + [off[k]] + states[k + 1:]
                    self.assertIs(runs.is_run(own, row, mixed, d), self.can_all(steps, mixed, d))
        self.assertGreater(min(told.values()), 20)

    def can_all(self, steps, states, d):
        return all(self.can(step, states[k], states[k + 1], Fraction(*d)) for k, step in enumerate(steps))

    def can(self, step, state, other, d):
        """Return whether each place lies between the least and the greatest corner of its shares."""
        looks, shares = step
        numbers = quotients(state)
        for place, lot in enumerate(looks):
            if shares is not None:
                own = [Fraction(*share) for share in shares[place]]
                if min(own) < d or sum(s * numbers[q] for s, q in zip(own, lot)) != Fraction(*other[place]):
                    return False
                continue
            if len(lot) * d > 1:
                return False
            corners = [sum(d * numbers[q] for q in lot) + (1 - len(lot) * d) * numbers[far] for far in lot]
            if not min(corners) <= Fraction(*other[place]) <= max(corners):
                return False
        return True


class Ranges(unittest.TestCase):
    def corners(self, own, row, start, d):
        """Return the least and the greatest numbers behind row, all corners of shares gone through."""
        states = {start}
        for step in plain.way(own, 0, row)[0]:
            looks, shares = own[0][step]
            found = set()
            for state in states:
                each = []
                for place, lot in enumerate(looks):
                    if shares is not None:
                        rows = [[Fraction(*share) for share in shares[place]]]
                    else:
                        rest = 1 - len(lot) * d
                        rows = [[d + (rest if k == far else 0) for k in range(len(lot))] for far in range(len(lot))]
                    each.append({sum(s * state[q] for s, q in zip(own_row, lot)) for own_row in rows})
                found |= set(product(*each))
            states = found
        return [pairs((min(own), max(own))) for own in zip(*states)]

    def test_against_all_corners(self):
        rng = random.Random(4)
        for own in [own for own in SOME if places(own) < 4]:
            for many in (0, 1, 2, 3):
                row, start = drawn_row(rng, own, 0, many), start_of(rng, own)
                for d in ((1, 3), (1, 7), (1, 2), (2, 3), (1, 1), (3, 1)):
                    steps = [own[0][step] for step in plain.way(own, 0, row)[0]]
                    can = all(self.keeps(step, Fraction(*d)) for step in steps)
                    if not can:
                        self.assertRaises(Unfit, runs.ranges_after, own, row, start, d)
                    elif many < 3 or places(own) < 3:
                        right = self.corners(own, row, tuple(quotients(start)), Fraction(*d))
                        self.assertEqual(runs.ranges_after(own, row, start, d), right)

    def keeps(self, step, d):
        looks, shares = step
        if shares is not None:
            return all(Fraction(*share) >= d for row in shares for share in row)
        return all(len(lot) * d <= 1 for lot in looks)

    def test_runs_stay_between_the_ends(self):
        rng = random.Random(5)
        for own in SOME:
            row, start = drawn_row(rng, own, 0, 5), start_of(rng, own)
            steps = [own[0][step] for step in plain.way(own, 0, row)[0]]
            shares = [drawn_rows(rng, step) for step in steps]
            least = min(Fraction(*share) for rows in shares for lot in rows for share in lot)
            ends = runs.ranges_after(own, row, start, pairs([least])[0])
            for number, (low, high) in zip(runs.run_by(own, row, start, shares)[-1], ends):
                self.assertTrue(Fraction(*low) <= Fraction(*number) <= Fraction(*high))

    def test_the_edges(self):
        start = ((0, 1), (1, 1), (1, 2))
        self.assertEqual(runs.ranges_after(WILD, (), start, (5, 1)), [(number, number) for number in start])
        self.assertEqual(runs.ranges_after(WILD, (0,), start, (1, 1)), [((0, 1),) * 2, ((0, 1),) * 2, ((1, 1),) * 2])
        self.assertRaises(Unfit, runs.ranges_after, WILD, (0,), start, (2, 1))
        self.assertRaises(Unfit, runs.ranges_after, PAIR, (0,), start[:2], (2, 3))
        self.assertEqual(runs.ranges_after(PAIR, (0,), start[:2], (1, 2)), [((1, 2), (1, 2))] * 2)
        low, high = runs.ranges_after(PAIR, (0,) * 300, start[:2], (1, 10 ** 30))[0]
        self.assertTrue(Fraction(*low) < Fraction(1, 10 ** 27) and Fraction(*high) > 1 - Fraction(1, 10 ** 27))


class Camps(unittest.TestCase):
    def test_camp_state(self):
        for n in range(1, 7):
            for some in plain.every_camps(n):
                right = tuple((0, 1) if p in some[0] else (1, 1) if p in some[1] else (1, 2) for p in range(n))
                self.assertEqual(runs.camp_state(n, some), right)
        self.assertEqual(runs.camp_state(6, ((0, 2), (1,))), ((0, 1), (1, 1), (0, 1), (1, 2), (1, 2), (1, 2)))

    def test_camps_on_the_way_beside_the_numbers_of_a_run(self):
        rng = random.Random(6)
        for own in SOME:
            for some in plain.every_camps(places(own))[:12]:
                row = drawn_row(rng, own, 0, 6)
                told = runs.camps_on_the_way(own, row, some)
                right = [plain.led_along(own, 0, row[:k], some) for k in range(7)]
                self.assertEqual(told, right[:right.index(None)] if None in right else right)
                states = runs.run_even(own, row, runs.camp_state(places(own), some))
                for state, there in zip(states, told):
                    lots = [tuple(p for p, number in enumerate(state) if number == end) for end in ((0, 1), (1, 1))]
                    # Told shares of a run, too, leave 0 and 1 just where CAMPS are.
                    self.assertEqual(tuple(sorted(lots)), there)

    def test_the_edges(self):
        self.assertEqual(runs.camps_on_the_way(WILD, (), ((0,), (1,))), [((0,), (1,))])
        self.assertEqual(len(runs.camps_on_the_way(TURN, (0,) * 300, ((0, 1), (2,)))), 1)
        self.assertEqual(len(runs.camps_on_the_way(TURN, (0,) * 300, ((0,), (1, 2)))), 301)


class Calls(unittest.TestCase):
    def test_every_row_of_arguments(self):
        start, rows = ((0, 1), (1, 1), (2, 1)), (((1, 1),),) * 3
        values = {"state": start, "shares": (rows, rows), "d": (1, 3), "camps": ((0,), (2,))}
        values["states"] = (start, ((0, 1), (0, 1), (1, 1)), ((0, 1), (0, 1), (0, 1)))
        for row in ((), (0, 0), (0, 1), (1, 0, 0), (0, 5)):
            for name, more in FUNCTIONS.items():
                named = {"machine": WILD, "row": row, **{key: values[key] for key in more}}
                check_call(self, getattr(runs, name), named)
        check_call(self, runs.camp_state, {"n": 3, "camps": ((0,), (2,))})
        shares = (TOLD[0][0][1], (((1, 1),), ((1, 2), (1, 2))))
        told = {"machine": TOLD, "row": (0, 0), "state": start[:2], "shares": shares}
        self.assertEqual(check_call(self, runs.run_by, told)[0], "result")
        check_call(self, runs.ranges_after, {"machine": TOLD, "row": (0, 0), "state": start[:2], "d": (1, 3)})
        check_call(self, runs.run_even, {"machine": TOLD, "row": (0, 0), "state": start[:2]})


if __name__ == "__main__":
    unittest.main()
