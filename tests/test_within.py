"""Point 18: within told spans, and waits."""

import random
import unittest
from itertools import combinations

from nearercamps import within
from nearercamps.machines import one_round
from tests import plain_machines as plain
from tests import plain_steps
from tests.calls import check_call
from tests.drawn import DUO, FIRST, LONE, LONE_OURS, SECOND, TAME, TOLD, TURN, TWO, WILD, drawn_machines, drawn_row
from tests.support import check_kind

S, T = (((0,), (1, 2), (2,)), None), (((0,), (0, 1), (1, 2)), None)
FREE = ((S, T), (("any", ((0, 0), (1, 0))),))
SWAP, HOLD = (((1,), (0,)), None), (((0,), (1,)), None)
TWICE = ((SWAP, HOLD), (("any", ((0, 1),)), ("any", ((1, 0),))))
STILL = (((0,), (1,), (2,)), None)
# FIRST is to come once in 14 moves: it kills what it has led, but for SECOND in the round between.
SLOW = ((FIRST, SECOND, STILL), (("any", ((0, 1), (1, 1))),) + tuple(("any", ((2, k),)) for k in (2, 3, 4, 5, 6, 0)))
EQUAL = ((HOLD, HOLD, SWAP), (("any", ((0, 0), (1, 0), (2, 0))),))
# The third STEP is on no arrow.
UNUSED = ((S, T, STILL), FREE[1])


def drawn_with_orders(seed, many):
    """Return drawn MACHINES whose STEPS mostly put all numbers in another order, so that CAMPS live long."""
    rng = random.Random(seed)
    found = []
    for own in drawn_machines(seed, many, 4, 4, more=3):
        n = len(own[0][0][0])
        orders = [rng.sample(range(n), n) for _ in own[0]]
        steps = [tuple((rng.randrange(n) if rng.random() < 0.2 else p,) for p in order) for order in orders]
        found.append((tuple((looks, None) for looks in steps), own[1]))
    return tuple(found)


SOME = tuple(drawn_machines(801, 50, 4, 4)) + drawn_with_orders(802, 40)
SOME = SOME + (WILD, TAME, DUO, TURN, TWO, FREE, TWICE, EQUAL, UNUSED, LONE, TOLD, LONE_OURS)


def places(own):
    return len(own[0][0][0])


def is_round(own, row):
    return plain.row(own, 0, row) and len(row) > 0 and plain.way(own, 0, row)[1][-1] == 0


def keeps(own, row, some):
    behind = plain.led_along(own, 0, row, some)
    return behind is not None and plain.within(some, behind)


def is_within(own, named, k, row):
    """Return whether row is a round row that has all of named in each k moves, gone round and round."""
    if not is_round(own, row):
        return False
    steps = plain.way(own, 0, row)[0]
    gone = steps * (2 + k // len(steps))
    return all(set(named) <= set(gone[at:at + k]) for at in range(len(steps)))


def paper(own, named, k, thing):
    if type(thing) is not tuple or len(thing) != 2 or not plain.camps(thing[0], places(own)):
        return False
    return is_within(own, named, k, thing[1]) and keeps(own, thing[1], thing[0])


def looks_of(own, row):
    looks = tuple((p,) for p in range(places(own)))
    for step in plain.way(own, 0, row)[0]:
        looks = tuple(tuple(sorted({q for p in seen for q in looks[p]})) for seen in own[0][step][0])
    return looks


def waited(own, row, some):
    looks = looks_of(own, row)
    least = plain_steps.least_closed(looks)
    seen = []
    for place in range(places(own)):
        far = set().union(*(plain_steps.ends_of_ways(looks, place, moves) for moves in range(places(own) + 1)))
        seen.append([set(lot) for lot in least if far & set(lot)])
    lots = [tuple(p for p, own_lots in enumerate(seen) if all(lot <= set(camp) for lot in own_lots)) for camp in some]
    return tuple(sorted(lots)) if all(lots) else None


def waiting(own, named, thing):
    if type(thing) is not tuple or len(thing) != 2 or not plain.camps(thing[0], places(own)):
        return False
    if type(thing[1]) is not tuple or len(thing[1]) == 0:
        return False
    some, came = thing[0], set()
    for turn in thing[1]:
        if type(turn) is not tuple or len(turn) != 2 or type(turn[1]) is not bool or not is_round(own, turn[0]):
            return False
    for row, is_wait in thing[1]:
        came |= set(plain.way(own, 0, row)[0])
        if some is not None:
            some = waited(own, row, some) if is_wait else plain.led_along(own, 0, row, some)
    return set(named) <= came and some is not None and plain.within(thing[0], some)


def plain_harms(own, named, k):
    """Return whether CAMPS can live for ever within k, the last moves of each way told one by one."""
    begins = [(0, (), some) for some in plain.every_camps(places(own))]
    ends, going = {}, list(begins)
    for stand, last, some in going:
        ends[(stand, last, some)] = []
        for step, end in own[1][stand][1]:
            moves, there = last + (step,), plain.led(own[0][step][0], some)
            if there is not None and (len(moves) < k or set(named) <= set(moves)):
                behind = (end, moves[-(k - 1):] if k > 1 else (), there)
                ends[(stand, last, some)].append(behind)
                if behind not in ends:
                    ends[behind] = []
                    going.append(behind)
    alive = set(ends)
    while True:
        left = {spot for spot in alive if any(end in alive for end in ends[spot])}
        if left == alive:
            return any(spot in alive for spot in begins)
        alive = left


def names_of(own):
    """Return the sets of one or two places of STEPS."""
    return [named for many in (1, 2) for named in combinations(range(len(own[0])), many)]


def rows_round(own, most):
    return [row for many in range(1, most + 1) for row in plain.rows(own, 0, many) if is_round(own, row)]


class Rounds(unittest.TestCase):
    def test_against_plain_counting(self):
        told = {True: 0, False: 0}
        rng = random.Random(1)
        for own in SOME + (SLOW,):
            rows = [drawn_row(rng, own, 0, rng.randint(0, 9)) for _ in range(12)] + [(0, 7), (-1,), (5,) * 4, ()]
            for row in rows:
                for named in names_of(own):
                    for k in (1, 2, 3, 5, 12, 30):
                        right = is_within(own, named, k, row)
                        self.assertIs(within.is_round_within(own, named, k, row), right)
                        told[right] += 1
        self.assertGreater(min(told.values()), 500)

    def test_the_edges(self):
        self.assertIs(within.is_round_within(FREE, (0,), 1, (0,)), True)
        self.assertIs(within.is_round_within(FREE, (0,), 1, (1,)), False)
        self.assertIs(within.is_round_within(FREE, (0,), 12, ()), False)
        for k, right in ((1, False), (2, False), (3, True), (12, True)):
            self.assertIs(within.is_round_within(FREE, (0,), k, (1, 0, 1)), right)
        self.assertIs(within.is_round_within(FREE, (0, 1), 3, (1, 0, 1, 0, 0, 1)), True)
        self.assertIs(within.is_round_within(FREE, (0, 1), 2, (1, 0, 1, 0, 0, 1)), False)
        self.assertIs(within.is_round_within(EQUAL, (0,), 2, (1, 2)), False)
        self.assertIs(within.is_round_within(EQUAL, (0,), 2, (0, 2)), True)
        self.assertIs(within.is_round_within(TURN, (0,), 2, (0,)), False)
        self.assertIs(within.is_round_within(WILD, (0,), 600, (0,) + (1,) * 600), False)
        self.assertIs(within.is_round_within(WILD, (0,), 601, (0,) + (1,) * 600), True)


class Harming(unittest.TestCase):
    def test_against_round_rows_one_by_one(self):
        kinds = set()
        for own in SOME:
            rows = rows_round(own, 6)
            kept = [row for row in rows if any(keeps(own, row, some) for some in plain.every_camps(places(own)))]
            for named in names_of(own):
                before = False
                for k in (1, 2, 3, 4, 6, 12):
                    told = within.harms(own, named, k)
                    if any(is_within(own, named, k, row) for row in kept):
                        self.assertIs(told, True)
                    thing = within.within_paper(own, named, k)
                    self.assertEqual(thing is not None, told)
                    if told:
                        self.assertTrue(paper(own, named, k, thing))
                        self.assertIs(within.is_within_paper(own, named, k, thing), True)
                    self.assertTrue(told or not before)
                    before = told
                kinds.add((len(named), before, any(owner == "ours" for owner, _ in own[1])))
        self.assertEqual(len(kinds), 8)

    def test_the_least_that_harms(self):
        found = set()
        for own in SOME:
            rows = rows_round(own, 6)
            kept = [row for row in rows if any(keeps(own, row, some) for some in plain.every_camps(places(own)))]
            for named in names_of(own):
                least = within.least_harming(own, named)
                found.add(least)
                if least is None:
                    self.assertFalse(any(set(named) <= set(plain.way(own, 0, row)[0]) for row in kept))
                    self.assertFalse(within.harms(own, named, 12))
                else:
                    self.assertTrue(within.harms(own, named, least))
                    self.assertFalse(least > 1 and within.harms(own, named, least - 1))
                    self.assertFalse(any(is_within(own, named, least - 1, row) for row in kept if least > 1))
        self.assertLessEqual({None, 1, 2, 3, 4}, found)

    def test_against_all_ways_with_their_last_moves(self):
        told = {True: 0, False: 0}
        for own in SOME:
            for named in names_of(own):
                for k in (1, 2, 3, 4):
                    right = plain_harms(own, named, k)
                    self.assertIs(within.harms(own, named, k), right)
                    told[right] += 1
        self.assertGreater(min(told.values()), 200)

    def test_a_least_one_above_twelve(self):
        self.assertEqual(within.least_harming(SLOW, (0,)), 14)
        self.assertEqual(within.least_harming(SLOW, (0, 1)), 14)
        self.assertEqual(within.least_harming(SLOW, (2,)), 2)
        self.assertEqual(within.least_harming(SLOW, (1, 2)), 14)
        self.assertIs(within.harms(SLOW, (0,), 12), False)
        self.assertIs(within.harms(SLOW, (0,), 13), False)
        self.assertIs(within.harms(SLOW, (0,), 14), True)
        self.assertIsNone(within.within_paper(SLOW, (0,), 13))
        self.assertTrue(paper(SLOW, (0,), 14, within.within_paper(SLOW, (0,), 14)))

    def test_two_together_may_need_more_than_each_alone(self):
        # Camps live as long as one likes by either of two rings of STEPS, and by going from one to the other.
        own = ((HOLD, HOLD, HOLD), (("any", ((0, 1), (1, 2))), ("any", ((2, 0),)), ("any", ((2, 0),))))
        self.assertEqual([within.least_harming(own, named) for named in ((0,), (1,), (2,))], [2, 2, 2])
        self.assertEqual(within.least_harming(own, (0, 1)), 4)
        self.assertEqual(within.least_harming(own, (0, 2)), 2)
        self.assertEqual(within.least_harming(own, (0, 1, 2)), 4)

    def test_the_edges(self):
        self.assertIsNone(within.least_harming(LONE, (0,)))
        self.assertIs(within.harms(LONE, (0,), 12), False)
        self.assertIsNone(within.within_paper(LONE, (0,), 1))
        self.assertIs(within.harms(UNUSED, (2,), 12), False)
        self.assertIsNone(within.least_harming(UNUSED, (0, 2)))
        self.assertEqual(within.least_harming(EQUAL, (0,)), 1)
        self.assertEqual(within.least_harming(EQUAL, (0, 1)), 2)
        self.assertEqual(within.least_harming(EQUAL, (0, 2)), 2)
        self.assertEqual(within.least_harming(TAME, (0, 1)), 2)

    def test_all_short_papers_against_the_words(self):
        right = 0
        for own in SOME[::4] + (FREE, TWICE):
            for some in plain.every_camps(places(own)):
                for row in rows_round(own, 4)[:20]:
                    for named in names_of(own):
                        for k in (1, 2, 3):
                            told = within.is_within_paper(own, named, k, (some, row))
                            self.assertIs(told, paper(own, named, k, (some, row)))
                            right += told
        self.assertGreater(right, 50)

    def test_things_of_every_kind(self):
        for own, named, k in ((FREE, (0,), 3), (TWICE, (0, 1), 2), (WILD, (0, 1), 2), (TWO, (0,), 3)):
            thing = within.within_paper(own, named, k)
            check_kind(self, lambda one: within.is_within_paper(own, named, k, one),
                       lambda one: paper(own, named, k, one), thing)
        self.assertIs(within.is_within_paper(FREE, (0, 1), 12, None), False)


class Waits(unittest.TestCase):
    def test_waited_against_plain_counting(self):
        rng = random.Random(2)
        kinds = set()
        for own in SOME + (FREE,) * 4:
            for row in [row for row in rows_round(own, 3) if rng.random() < 0.5][:12]:
                for some in plain.every_camps(places(own)):
                    told = within.waited(own, row, some)
                    self.assertEqual(told, waited(own, row, some))
                    kinds.add((told is None, told is not None and plain.within(some, told)))
        self.assertEqual(len(kinds), 3)

    def test_a_wait_may_kill_or_widen(self):
        self.assertEqual(within.waited(FREE, (0,), ((0,), (2,))), ((0,), (1, 2)))
        self.assertIsNone(within.waited(FREE, (0,), ((0,), (1,))))
        self.assertEqual(within.waited(TWICE, (0, 0), ((0,), (1,))), None)
        self.assertEqual(within.waited(TWICE, (0, 0, 0, 0), ((0,), (1,))), ((0,), (1,)))
        # Both LOTS change their places, and stand in order again.
        far = (((((2,), (0, 1, 2), (0,)), None),), (("any", ((0, 0),)),))
        self.assertIsNone(within.waited(far, (0,), ((0,), (2,))))
        self.assertEqual(within.waited(far, (0, 0), ((0,), (2,))), ((0,), (2,)))
        last = (((((2,), (1,), (2,)), None),), (("any", ((0, 0),)),))
        self.assertEqual(within.waited(last, (0,), ((1,), (2,))), ((0, 2), (1,)))

    def papers(self, own, most):
        """Yield some things of the form of waiting papers."""
        rows = rows_round(own, 2)[:4]
        turns = [(row, is_wait) for row in rows for is_wait in (False, True)]
        for some in plain.every_camps(places(own))[:8]:
            for one in turns:
                yield some, (one,)
                for other in turns[:most]:
                    yield some, (one, other)

    def test_waiting_papers_against_the_words(self):
        told = {True: 0, False: 0}
        for own in SOME:
            for thing in self.papers(own, 4):
                for named in names_of(own):
                    right = waiting(own, named, thing)
                    self.assertIs(within.is_waiting_paper(own, named, thing), right)
                    told[right] += 1
        self.assertGreater(min(told.values()), 200)

    def test_things_of_every_kind(self):
        for thing in ((((0,), (1, 2)), (((1,), False), ((0,), True))), (((0,), (2,)), (((0,), True),))):
            named = tuple(sorted({row[0] for row, _ in thing[1]}))
            check_kind(self, lambda one: within.is_waiting_paper(FREE, named, one),
                       lambda one: waiting(FREE, named, one), thing)
        right = (((0,), (1, 2)), (((1,), False), ((0,), True)))
        for flawed in ((right[0], right[1] + (((2,), False),)), (right[0], right[1] + (((), True),)), (right[0], ()),
                       (right[0], [((1,), False)]), (right[0], (((1,), 0), ((0,), 1))), (right[0], right[1][::-1])):
            self.assertIs(within.is_waiting_paper(FREE, (0, 1), flawed), waiting(FREE, (0, 1), flawed))
        self.assertIs(within.is_waiting_paper(FREE, (0, 1), (right[0], right[1][1:])), False)
        self.assertIs(within.is_waiting_paper(FREE, (0,), (right[0], right[1][1:])), True)

    def test_turns_of_one_and_of_twelve(self):
        camps = ((0,), (1, 2))
        self.assertIs(within.is_waiting_paper(FREE, (0,), (camps, (((0,), True),))), True)
        twelve = (((1,), False), ((0,), True)) * 6
        self.assertIs(within.is_waiting_paper(FREE, (0, 1), (camps, twelve)), True)
        eleven, other = (camps, twelve[:11]), (camps, twelve[:10] + (((1,), False), ((1,), False)))
        self.assertIs(within.is_waiting_paper(FREE, (0, 1), eleven), waiting(FREE, (0, 1), eleven))
        self.assertIs(within.is_waiting_paper(FREE, (0, 1), other), False)
        self.assertIs(within.is_waiting_paper(FREE, (0,), (camps, (((0,) * 40, True),))), True)

    def test_the_spread_stays_along_ever_longer_waits(self):
        done = 0
        for own in SOME:
            for thing in list(self.papers(own, 3))[:60]:
                if not within.is_waiting_paper(own, (0,), thing) or places(own) > 3:
                    continue
                row = within.waiting_row(thing[1], 120, 3)
                numbers = [0.0 if p in thing[0][0] else 1.0 if p in thing[0][1] else 0.5 for p in range(places(own))]
                for step in plain.way(own, 0, row)[0]:
                    looks, shares = own[0][step]
                    rows = shares or tuple(((1, len(lot)),) * len(lot) for lot in looks)
                    numbers = [sum(s[0] / s[1] * numbers[q] for s, q in zip(rows[p], lot))
                               for p, lot in enumerate(looks)]
                self.assertGreater(max(numbers) - min(numbers), 0.9)
                done += 1
        self.assertGreater(done, 50)


class WaitingRows(unittest.TestCase):
    def plainly(self, turns, first, many):
        found = []
        for at in range(many):
            for row, is_wait in turns:
                for _ in range(first + at if is_wait else 1):
                    found += row
        return tuple(found)

    def test_against_plain_counting(self):
        for turns in ((((0,), True),), (((1,), False), ((0,), True)), (((1,), False),),
                      (((1, 0), True), ((0, 0, 1), False), ((2,), True)), (((0,), True), ((1,), False)) * 6):
            for first in (1, 2, 30):
                for many in (1, 2, 5, 30):
                    self.assertEqual(within.waiting_row(turns, first, many), self.plainly(turns, first, many))
        self.assertEqual(within.waiting_row((((0, 1), False),), 30, 1), (0, 1))
        self.assertEqual(len(within.waiting_row((((0,) * 40, True),) * 12, 30, 30)), 40 * 12 * sum(range(30, 60)))


class Calls(unittest.TestCase):
    def test_every_row_of_arguments(self):
        turns = (((1,), False), ((0,), True))
        for own in (FREE, TWICE, TOLD, LONE):
            for named in ((0,), (0, 1)):
                for row in ((0,), (0, 0), (0, 1, 0), (), (9,)):
                    check_call(self, within.is_round_within, {"machine": own, "named": named, "k": 2, "row": row})
                if max(named) < len(own[0]):
                    self.check_harming(own, named, turns)
        check_call(self, within.waited, {"machine": FREE, "row": (0,), "camps": ((0,), (2,))})
        check_call(self, within.waited, {"machine": FREE, "row": (1, 0), "camps": ((0,), (2,))})
        check_call(self, within.waiting_row, {"turns": turns, "first": 2, "many": 3})

    def check_harming(self, own, named, turns):
        for k in (1, 2):
            check_call(self, within.harms, {"machine": own, "named": named, "k": k})
            check_call(self, within.within_paper, {"machine": own, "named": named, "k": k})
            for thing in (None, (((0,), (1,)), (0, 0)), (((0,), (2,)), (0,))):
                named_ones = {"machine": own, "named": named, "k": k, "thing": thing}
                check_call(self, within.is_within_paper, named_ones)
        check_call(self, within.least_harming, {"machine": own, "named": named})
        for thing in (None, (((0,), (1, 2)), turns)):
            check_call(self, within.is_waiting_paper, {"machine": own, "named": named, "thing": thing})

    def test_a_round_of_two_steps(self):
        self.assertEqual(within.least_harming(one_round((SWAP, HOLD)), (0, 1)), 2)


if __name__ == "__main__":
    unittest.main()
