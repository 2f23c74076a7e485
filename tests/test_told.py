"""Point 17: who comes together by told times."""

import random
import unittest
from fractions import Fraction

from nearercamps import told
from nearercamps.errors import CanNot, NoPlace, Unfit
from tests import plain_machines as plain
from tests import plain_steps
from tests.calls import check_call
from tests.drawn import DUO, LONE, LONE_OURS, TAME, TOLD, TURN, TWO, WILD, drawn_machines, drawn_row
from tests.support import as_lists, as_mixed, check_kind

S, T = (((0,), (1, 2), (2,), (0,)), None), (((0,), (0, 1), (1, 2), (2,)), None)
FREE = ((S, T), (("any", ((0, 0), (1, 0))),))
TWINS = (((((0,), (0,), (2,), (2,)), None),), (("any", ((0, 0),)),))
SIGHT = (((((0,), (1,), (0, 1), (0, 1)), None),), (("any", ((0, 0),)),))
ALONE = (((((0,),), None),), (("any", ((0, 0),)),))
SOME = tuple(drawn_machines(701, 70, 4, 4, told=False)) + tuple(drawn_machines(702, 15, 5, 3, told=False))
SOME = SOME + (WILD, TAME, DUO, TURN, TWO, FREE, TWINS, SIGHT, ALONE)
SHARED = ((S, (S[0], (((1, 1),), ((1, 2), (1, 2)), ((1, 1),), ((1, 1),)))), FREE[1])
UNUSED = (SHARED[0], (("any", ((0, 0),)),))


def places(own):
    return len(own[0][0][0])


def every_pair(own):
    return [(p, q) for q in range(places(own)) for p in range(q)]


def led_on(looks, pairs):
    found = set()
    for p, q in pairs:
        for i, first in enumerate(looks):
            for j, second in enumerate(looks):
                if i != j and p in first and q in second:
                    found.add((min(i, j), max(i, j)))
    return found


def kept(own, some, row):
    if not plain.row(own, 0, row) or len(row) == 0 or plain.way(own, 0, row)[1][-1] != 0:
        return False
    behind = plain.led_along(own, 0, row, some)
    return behind is not None and plain.within(some, behind)


def ever_kept(own, some):
    """Return whether some round row keeps CAMPS, all that they are led to gone through."""
    alive, met = {(0, some)}, set()
    while alive - met:
        met |= alive
        alive = {(end, plain.led(own[0][step][0], there)) for k, there in alive for step, end in own[1][k][1]}
        alive = {(k, there) for k, there in alive if there is not None}
        if any(k == 0 and plain.within(some, there) for k, there in alive):
            return True
    return False


def between(some):
    return {(min(p, q), max(p, q)) for p in some[0] for q in some[1]}


def parted(own):
    """Return a list of the sets of the PAIRS that are parted at each stand."""
    found = [set() for _ in own[1]]
    for some in plain.every_camps(places(own)):
        if ever_kept(own, some):
            found[0] |= between(some)
    while True:
        before = [set(pairs) for pairs in found]
        for k, (_, arrows) in enumerate(own[1]):
            for step, end in arrows:
                found[end] |= led_on(own[0][step][0], found[k])
        if before == found:
            return found


def paper(own, pair, thing):
    if type(thing) is not tuple or len(thing) != 3 or not plain.camps(thing[0], places(own)):
        return False
    if not kept(own, thing[0], thing[1]) or not plain.row(own, 0, thing[2]):
        return False
    pairs = between(thing[0])
    for step in plain.way(own, 0, thing[2])[0]:
        pairs = led_on(own[0][step][0], pairs)
    return pair in pairs


class Pairs(unittest.TestCase):
    def test_led_on_against_plain_counting(self):
        rng = random.Random(1)
        for own in SOME:
            for looks, _ in own[0]:
                every = sorted(every_pair(own))
                for pairs in [every, [], every[:1], rng.sample(every, len(every) // 2)]:
                    pairs = tuple(sorted(pairs))
                    self.assertEqual(told.led_on(looks, pairs), tuple(sorted(led_on(looks, pairs))))
        self.assertEqual(told.led_on(((0,),), ()), ())
        self.assertEqual(told.led_on(((1,), (0,)), ((0, 1),)), ((0, 1),))
        self.assertEqual(told.led_on(((0, 1), (0, 1)), ((0, 1),)), ((0, 1),))
        self.assertEqual(told.led_on(((0,), (0,)), ((0, 1),)), ())

    def test_is_kept_against_plain_counting(self):
        right = 0
        for own in SOME:
            for some in plain.every_camps(places(own)):
                for row in [row for many in range(5) for row in plain.rows(own, 0, many)][:40]:
                    self.assertIs(told.is_kept(own, some, row), kept(own, some, row))
                    right += kept(own, some, row)
        self.assertGreater(right, 100)

    def test_is_kept_of_what_is_no_round_row(self):
        some = ((0,), (1, 2))
        for own, row in ((WILD, (2,)), (WILD, (-1,)), (WILD, ()), (TURN, (0,)), (TURN, (0, 1)), (DUO, (0, 0, 0)),
                         (WILD, (0, 1, 5)), (TURN, (0, 0, 7))):
            self.assertIs(told.is_kept(own, some, row), False)
        self.assertIs(told.is_kept(WILD, some, (0, 1)), True)
        # The LOTS change sides.
        swap = (((((1,), (0,)), None),), ALONE[1])
        self.assertIs(told.is_kept(swap, ((0,), (1,)), (0,)), True)
        # What is led to may be wider.
        self.assertIs(told.is_kept(TWINS, ((0,), (2,)), (0,)), True)
        self.assertIs(told.is_kept(TWINS, ((1,), (3,)), (0,)), False)

    def test_parted_pairs_and_lots_against_plain_counting(self):
        sizes = set()
        for own in SOME:
            right = parted(own)
            for k in range(len(own[1])):
                self.assertEqual(told.parted_pairs(own, k), tuple(sorted(right[k])))
            apart = set().union(*right)
            lots = [tuple(q for q in range(places(own)) if p == q or (min(p, q), max(p, q)) not in apart)
                    for p in range(places(own))]
            self.assertEqual(told.meeting_lots(own), sorted(set(lots)))
            self.assertEqual(sorted(p for lot in set(lots) for p in lot), list(range(places(own))))
            sizes |= {(places(own), len(set(lots)))}
        self.assertLessEqual({(1, 1), (2, 1), (2, 2), (3, 1), (3, 2), (3, 3), (4, 1), (4, 2), (4, 4)}, sizes)

    def test_owners_do_not_count(self):
        self.assertEqual(told.meeting_lots(TAME), told.meeting_lots(WILD))
        self.assertEqual(told.meeting_lots(DUO), told.meeting_lots(TWO))

    def test_no_such_stand(self):
        for own, stand in ((WILD, 1), (WILD, -1), (TURN, 2), (ALONE, 60)):
            with self.assertRaises(NoPlace) as caught:
                told.parted_pairs(own, stand)
            self.assertEqual(caught.exception.place, stand)
        self.assertEqual(told.parted_pairs(ALONE, 0), ())


class Papers(unittest.TestCase):
    def test_a_pair_is_parted_exactly_if_it_has_a_paper(self):
        kinds = set()
        for own in SOME:
            apart = set().union(*parted(own))
            for pair in every_pair(own):
                thing = told.parting_paper(own, pair)
                self.assertEqual(thing is not None, pair in apart)
                if thing is not None:
                    self.assertIs(told.is_parting_paper(own, pair, thing), True)
                    self.assertIs(paper(own, pair, thing), True)
                    kinds.add(len(thing[2]))
                else:
                    self.assertIs(told.is_parting_paper(own, pair, None), False)
        self.assertLessEqual({0, 1, 2}, kinds)

    def test_many_papers_against_the_words(self):
        rng = random.Random(2)
        right = 0
        for own in SOME:
            every = plain.every_camps(places(own))
            for _ in range(100 if every else 0):
                turn, row = (drawn_row(rng, own, 0, rng.randint(0, 3)) for _ in (0, 1))
                thing = (rng.choice(every), turn, row)
                pair = rng.choice(every_pair(own))
                self.assertIs(told.is_parting_paper(own, pair, thing), paper(own, pair, thing))
                right += paper(own, pair, thing)
        self.assertGreater(right, 100)

    def test_things_of_every_kind(self):
        for own, pair in ((FREE, (0, 3)), (WILD, (0, 1)), (TWINS, (1, 3)), (DUO, (0, 1))):
            thing = told.parting_paper(own, pair)
            check_kind(self, lambda one: told.is_parting_paper(own, pair, one), lambda one: paper(own, pair, one),
                       thing)
        self.assertIs(told.is_parting_paper(TWINS, (1, 3), (((0,), (2,)), (0,), ())), False)
        self.assertIs(told.is_parting_paper(TWINS, (0, 2), (((0,), (2,)), (0,), ())), True)
        self.assertIs(told.is_parting_paper(TWINS, (0, 1), (((0,), (2,)), (0,), (0,))), False)

    def test_the_edges(self):
        self.assertEqual(told.meeting_lots(ALONE), [(0,)])
        self.assertIsNone(told.parting_paper(TWINS, (0, 1)))
        self.assertEqual(told.parting_paper(TWINS, (0, 2))[2], ())


class Runs(unittest.TestCase):
    def check(self, own, pair, thing, many, d):
        some, turn, row = thing
        arrows = [own[0][step][0] for step in plain.way(own, 0, turn * many + row)[0]]
        if any(len(lot) * Fraction(*d) > 1 for looks in arrows for lot in looks):
            self.assertRaises(CanNot, told.parting_run, own, pair, thing, many, d)
            return False
        start, shares = told.parting_run(own, pair, thing, many, d)
        self.assertTrue(plain_steps.state(start, places(own)))
        self.assertIsInstance(shares, list)
        self.assertEqual(len(shares), len(arrows))
        numbers = [Fraction(*number) for number in start]
        for looks, rows in zip(arrows, shares):
            self.assertTrue(plain_steps.rows_for(rows, looks))
            self.assertTrue(all(Fraction(*share) >= Fraction(*d) for lot in rows for share in lot))
            numbers = plain_steps.move(looks, rows, numbers)
        far = abs(numbers[pair[0]] - numbers[pair[1]])
        self.assertGreaterEqual(far, 1 - 2 * len(row) * (places(own) - 1) * Fraction(*d))
        return True

    def test_the_places_of_a_pair_stay_apart_as_stated(self):
        done = 0
        for own in SOME:
            for pair in every_pair(own):
                thing = told.parting_paper(own, pair)
                for many in (0, 1, 2, 5) if thing is not None else ():
                    for d in ((1, 1), (1, 2), (1, 3), (2, 7), (1, 10), (1, 10 ** 6), (3, 1)):
                        done += self.check(own, pair, thing, many, d)
        self.assertGreater(done, 500)

    def test_longer_rows_and_turns(self):
        rng = random.Random(3)
        done = 0
        for own in SOME:
            every = plain.every_camps(places(own))
            for _ in range(60 if every else 0):
                turn, row = drawn_row(rng, own, 0, rng.randint(1, 5)), drawn_row(rng, own, 0, rng.choice([1, 3, 5, 40]))
                thing, pair = (rng.choice(every), turn, row), rng.choice(every_pair(own))
                if paper(own, pair, thing):
                    done += self.check(own, pair, thing, rng.choice([0, 1, 3, 40]), rng.choice([(1, 5), (1, 1000)]))
        self.assertGreater(done, 50)

    def test_lots_on_these_arrows_alone_count(self):
        own = (((((0,), (1,), (0, 1)), None), (((0,), (1,), (2,)), None)), (("any", ((0, 0), (1, 0))),))
        thing = (((0,), (1,)), (0,), ())
        self.assertEqual(told.parting_run(own, (0, 1), thing, 0, (7, 1))[1], [])
        self.assertRaises(CanNot, told.parting_run, own, (0, 1), thing, 1, (2, 3))
        self.assertEqual(len(told.parting_run(own, (0, 1), thing, 1, (1, 2))[1]), 1)
        thing = (((0,), (1,)), (1,), (0,))
        self.assertRaises(CanNot, told.parting_run, own, (0, 1), thing, 0, (2, 3))
        self.assertEqual(len(told.parting_run(own, (0, 1), thing, 3, (1, 2))[1]), 4)
        thing = (((0,), (1,)), (1,), ())
        self.assertEqual(len(told.parting_run(own, (0, 1), thing, 40, (1, 1))[1]), 40)
        self.assertRaises(CanNot, told.parting_run, own, (0, 1), thing, 1, (2, 1))

    def test_places_of_one_lot_come_together_in_drawn_runs(self):
        rng = random.Random(4)
        for own in SOME:
            row = drawn_row(rng, own, 0, 1500)
            numbers = [float(p % 2) for p in range(places(own))]
            for step in plain.way(own, 0, row)[0]:
                looks = own[0][step][0]
                numbers = [sum(numbers[q] for q in lot) / len(lot) for lot in looks]
            for lot in told.meeting_lots(own):
                self.assertLess(max(numbers[p] for p in lot) - min(numbers[p] for p in lot), 0.001)


class Refused(unittest.TestCase):
    def test_told_shares_are_refused_first(self):
        for own in (SHARED, UNUSED, TOLD, LONE_OURS):
            for call in (lambda: told.is_kept(own, ((0,), (1,)), (9,)), lambda: told.parted_pairs(own, 99),
                         lambda: told.meeting_lots(own), lambda: told.parting_paper(own, (0, 1)),
                         lambda: told.is_parting_paper(own, (0, 1), None),
                         lambda: told.parting_run(own, (0, 1), (((0,), (2,)), (0,), (0,)), 1, (5, 1))):
                self.assertRaises(Unfit, call)

    def test_every_row_of_arguments(self):
        for own in (FREE, WILD, SHARED, LONE):
            check_call(self, told.meeting_lots, {"machine": own})
            for stand in (0, 5):
                check_call(self, told.parted_pairs, {"machine": own, "stand": stand})
            for row in ((), (0,), (0, 1), (7,)):
                check_call(self, told.is_kept, {"machine": own, "camps": ((0,), (2,)), "row": row})
        for own, pair in ((FREE, (0, 3)), (FREE, (1, 2)), (TWINS, (0, 1)), (SHARED, (0, 1))):
            check_call(self, told.parting_paper, {"machine": own, "pair": pair})
            for thing in (None, (((0,), (2,)), (0,), (1,))):
                check_call(self, told.is_parting_paper, {"machine": own, "pair": pair, "thing": thing})
        check_call(self, told.led_on, {"looks": T[0], "pairs": ((0, 2), (1, 3))})
        for d in ((1, 9), (2, 3)):
            named = {"machine": FREE, "pair": (0, 3), "paper": (((0,), (2,)), (0,), (1,)), "many": 2, "d": d}
            self.check_run(named)

    def check_run(self, named):
        if named["d"] == (2, 3):
            check_call(self, told.parting_run, named)
            return
        first = told.parting_run(**named)
        self.assertIsInstance(first, tuple)
        for shape in (as_lists, as_mixed):
            self.assertEqual(told.parting_run(**{key: shape(value) for key, value in named.items()}), first)
        self.assertEqual(told.parting_run(*named.values()), first)
        first[1].append("mine")
        self.assertEqual(len(told.parting_run(**named)[1]), len(first[1]) - 1)


if __name__ == "__main__":
    unittest.main()
