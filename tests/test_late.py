"""Point 19: numbers that are read late."""

import random
import unittest
from fractions import Fraction
from itertools import product

from nearercamps import late
from nearercamps.errors import NoPlace, TooMuch, Unfit
from nearercamps.machines import is_machine
from nearercamps.together import surely_together
from tests import plain_machines as plain
from tests import plain_steps
from tests.calls import check_call
from tests.drawn import DUO, LONE, LONE_OURS, TAME, TOLD, TURN, TWO, WILD, drawn_machines, drawn_row
from tests.support import check_kind

THREE = (((((1,), (2,), (0, 1)), None),), (("any", ((0, 0),)),))
BOTH = (((((0, 1), (0, 1)), None),), (("any", ((0, 0),)),))
SWAP = (((((1,), (0,)), None),), (("any", ((0, 0),)),))
NAMED = (THREE, BOTH, SWAP, WILD, TAME, DUO, TURN, TWO, LONE, LONE_OURS, TOLD)
SOME = tuple(drawn_machines(901, 60, 3, 4)) + NAMED


def places(own):
    return len(own[0][0][0])


def drawn_late(rng, own, most):
    """Return late with so many older spots at most."""
    found = [0] * places(own)
    for _ in range(rng.randint(0, most)):
        found[rng.randrange(len(found))] += 1
    return tuple(found)


def spots(lates):
    return [(p, 0) for p in range(len(lates))] + [(p, k) for p, most in enumerate(lates) for k in range(1, most + 1)]


def reads(looks, lates):
    """Return the list of the dicts {(place, seen): age} of all ways to read, by the order of the ages."""
    pairs = [(p, q) for p, lot in enumerate(looks) for q in lot]
    ranges = [range(1 if p == q else lates[q] + 1) for p, q in pairs]
    return [dict(zip(pairs, ages)) for ages in product(*ranges)]


def late_step(step, lates, read):
    looks, shares = step
    every = spots(lates)
    lots, rows = [], []
    for p, lot in enumerate(looks):
        told = {every.index((q, read[(p, q)])): shares and shares[p][k] for k, q in enumerate(lot)}
        lots.append(tuple(sorted(told)))
        rows.append(tuple(told[k] for k in sorted(told)))
    for p, k in every[len(looks):]:
        lots.append((every.index((p, k - 1)),))
        rows.append(((1, 1),))
    return tuple(lots), shares and tuple(rows)


def late_machine(own, lates):
    """Return the MACHINE read late, built anew stand by stand; None if it would have more than 200 arrows."""
    steps, stands = own
    still = tuple((k,) for k in range(len(spots(lates)))), None
    made = [[owner if len(arrows) > 1 else "any", []] for owner, arrows in stands]
    many = 0
    for k, (owner, arrows) in enumerate(stands):
        for step, end in arrows:
            going = [(late_step(steps[step], lates, read), end) for read in reads(steps[step][0], lates)]
            many += len(going)
            if made[k][0] == "ours":
                made[k][1].append((still, len(made)))
                made.append(["any", going])
                many += 1
            else:
                made[k][1] += going
    if many > 200:
        return None
    told = []
    for _, arrows in made:
        arrows[:] = dict.fromkeys(arrows)
        told += [step for step, _ in arrows]
    told = list(dict.fromkeys(told))
    return tuple(told), tuple((owner, tuple((told.index(step), end) for step, end in arrows)) for owner, arrows in made)


def plain_harm(own, lates):
    return not plain.together(plain.handed(late_machine(own, lates), ()))


class Spots(unittest.TestCase):
    def test_spots_and_ages_against_plain_counting(self):
        rng = random.Random(1)
        for own in SOME:
            for lates in [(0,) * places(own)] + [drawn_late(rng, own, 4) for _ in range(6)]:
                self.assertEqual(late.spots(lates), tuple(spots(lates)))
                for looks, _ in own[0]:
                    right = [tuple(tuple(read[(p, q)] for q in lot) for p, lot in enumerate(looks))
                             for read in reads(looks, lates)]
                    self.assertEqual(late.ages_of(looks, lates), sorted(set(right)))
                    for ages, read in list(zip(right, reads(looks, lates)))[:20]:
                        self.assertEqual(late.late_looks(looks, lates, ages), late_step((looks, None), lates, read)[0])

    def test_a_move_by_late_looks_reads_what_was_there(self):
        rng = random.Random(2)
        for own in SOME:
            for step in own[0]:
                lates = drawn_late(rng, own, 4)
                ages = rng.choice(late.ages_of(step[0], lates))
                held = {spot: Fraction(rng.randint(-50, 50)) for spot in spots(lates)}
                looks = late.late_looks(step[0], lates, ages)
                behind = [sum(list(held.values())[q] for q in lot) / len(lot) for lot in looks]
                for p, lot in enumerate(step[0]):
                    self.assertEqual(behind[p], sum(held[(q, age)] for q, age in zip(lot, ages[p])) / len(lot))
                for k, (p, age) in enumerate(spots(lates)):
                    if age > 0:
                        self.assertEqual(behind[k], held[(p, age - 1)])

    def test_the_edges(self):
        self.assertEqual(late.spots((0,)), ((0, 0),))
        self.assertEqual(late.spots((3,)), ((0, 0), (0, 1), (0, 2), (0, 3)))
        self.assertEqual(late.ages_of(((0,),), (5,)), [((0,),)])
        self.assertEqual(late.ages_of(((0, 1), (1,)), (4, 1)), [((0, 0), (0,)), ((0, 1), (0,))])
        self.assertEqual(late.late_looks(((0,),), (2,), ((0,),)), ((0,), (0,), (1,)))
        self.assertEqual(late.late_looks(((1,), (0, 1)), (1, 2), ((2,), (1, 0))), ((4,), (1, 2), (0,), (1,), (3,)))

    def test_ages_that_do_not_fit(self):
        looks = ((0, 1), (0,))
        for ages in (((0, 2), (0,)), ((0, -1), (0,)), ((1, 0), (0,)), ((0, 0), (1,)), ((0, 0), (-1,))):
            self.assertRaises(Unfit, late.late_looks, looks, (0, 1), ages)
        self.assertRaises(Unfit, late.late_looks, looks, (3, 1), ((1, 0), (0,)))
        self.assertEqual(late.late_looks(looks, (3, 1), ((0, 1), (3,))), ((0, 5), (4,), (0,), (2,), (3,), (1,)))

    def test_reads_itself(self):
        for own in SOME:
            right = all(p in lot for looks, _ in own[0] for p, lot in enumerate(looks))
            self.assertIs(late.reads_itself(own), right)
        # STEPS on no arrow count, too.
        self.assertIs(late.reads_itself((BOTH[0] + SWAP[0], BOTH[1])), False)
        self.assertIs(late.reads_itself(BOTH), True)


class Machines(unittest.TestCase):
    def test_built_anew_stand_by_stand(self):
        rng = random.Random(3)
        sizes = set()
        for own in SOME:
            for lates in [(0,) * places(own)] + [drawn_late(rng, own, 3) for _ in range(4)]:
                right = late_machine(own, lates)
                if right is None:
                    self.assertRaises(TooMuch, late.late_machine, own, lates)
                else:
                    made = late.late_machine(own, lates)
                    self.assertEqual(made, right)
                    self.assertTrue(is_machine(made, len(spots(lates))))
                sizes.add(right is None or len(right[1]) > len(own[1]))
        self.assertEqual(sizes, {True, False})

    def test_told_shares_in_the_new_order(self):
        step = (((0, 1, 2), (1,), (2,)), (((1, 2), (1, 3), (1, 6)), ((1, 1),), ((1, 1),)))
        own = ((step,), (("any", ((0, 0),)),))
        made = late.late_machine(own, (0, 1, 0))
        self.assertEqual(made[0][1], (((0, 2, 3), (1,), (2,), (1,)),
                                      (((1, 2), (1, 6), (1, 3)), ((1, 1),), ((1, 1),), ((1, 1),))))
        self.assertEqual(late.late_machine(own, (0, 0, 0)), own)

    def test_choices_of_ours_and_the_stands_behind(self):
        made = late.late_machine(TAME, (0, 0, 0))
        still = (((0,), (1,), (2,)), None)
        self.assertEqual(made, ((still,) + TAME[0],
                                (("ours", ((0, 1), (0, 2))), ("any", ((1, 0),)), ("any", ((2, 0),)))))
        lone = (TAME[0], (("ours", ((0, 0),)),))
        self.assertEqual(late.late_machine(lone, (0, 0, 0)), ((TAME[0][0],), (("any", ((0, 0),)),)))
        self.assertEqual([owner for owner, _ in late.late_machine(DUO, (0, 1, 0))[1]], ["any", "ours", "any", "any"])

    def test_equal_arrows_stand_but_once(self):
        twice = (BOTH[0] + BOTH[0], (("any", ((0, 0), (1, 0))),))
        self.assertEqual(late.late_machine(twice, (0, 0)), BOTH)
        self.assertEqual(late.late_machine(twice, (1, 1)), late.late_machine(BOTH, (1, 1)))

    def test_exactly_two_hundred_arrows_and_one_more(self):
        # 0 and 1 read 2 of 3 ages, so each arrow has 9; 22 arrows of these, and 2 of one age more each.
        wide = (((2,), (2,), (2,)), None)
        alone = (((0,), (1,), (2,)), None)
        many = [wide] * 22 + [alone] * 2
        own = (tuple(many), (("any", tuple((k, 0) for k in range(24))),))
        made = late.late_machine(own, (0, 0, 2))
        self.assertEqual(len(made[1][0][1]), 10)
        more = (tuple(many + [alone]), (("any", tuple((k, 0) for k in range(25))),))
        for call in (lambda: late.late_machine(more, (0, 0, 2)), lambda: late.late_harms(more, (0, 0, 2)),
                     lambda: late.late_paper(more, (0, 0, 2)), lambda: late.is_late_paper(more, (0, 0, 2), None)):
            self.assertRaises(TooMuch, call)
        self.assertIs(late.late_harms(own, (0, 0, 2)), True)
        self.assertIs(late.is_late_paper(own, (0, 0, 2), None), False)
        # For a choice of ours its own arrows count, too: 24 more.
        ours = (own[0], (("ours", own[1][0][1]),))
        self.assertRaises(TooMuch, late.late_machine, ours, (0, 0, 2))
        fits = ((wide,) * 20, (("ours", tuple((k, 0) for k in range(20))),))
        self.assertEqual(len(late.late_machine(fits, (0, 0, 2))[1]), 21)
        self.assertRaises(TooMuch, late.late_machine, ((wide,) * 21, (("ours", tuple((k, 0) for k in range(21))),)),
                          (0, 0, 2))

    def test_steps_on_no_arrow_do_not_count(self):
        crowd = (tuple(tuple(q for q in range(4) if q != p) for p in range(4)), None)
        own = (((((0,), (1,), (2,), (3,)), None), crowd), (("any", ((0, 0),)),))
        self.assertEqual(len(late.late_machine(own, (2, 1, 1, 1))[0]), 1)


class Harm(unittest.TestCase):
    def test_against_plain_counting(self):
        rng = random.Random(4)
        met = set()
        for own in SOME:
            for lates in [(0,) * places(own), drawn_late(rng, own, 2)]:
                if late_machine(own, lates) is not None and len(spots(lates)) <= 5:
                    right = plain_harm(own, lates)
                    self.assertIs(late.late_harms(own, lates), right)
                    met.add((right, sum(lates)))
        self.assertLessEqual({(right, many) for right in (True, False) for many in (0, 1, 2)}, met)

    def test_late_all_nought_is_the_machine_itself(self):
        for own in SOME:
            self.assertIs(late.late_harms(own, (0,) * places(own)), not surely_together(plain.handed(own, ())))

    def test_where_each_place_looks_at_itself_lateness_changes_nothing(self):
        rng = random.Random(5)
        met = set()
        for own in SOME:
            steps = tuple((tuple(tuple(sorted(set(lot) | {p})) for p, lot in enumerate(looks)), None)
                          for looks, _ in own[0])
            bare = (steps, own[1])
            self.assertIs(late.reads_itself(bare), True)
            for lates in [drawn_late(rng, own, 4) for _ in range(3)]:
                if late_machine(bare, lates) is not None:
                    harms = late.late_harms(bare, lates)
                    self.assertIs(harms, not surely_together(plain.handed(bare, ())))
                    met.add((harms, sum(lates) > 0))
        self.assertEqual(len(met), 4)

    def test_least_late_against_one_after_the_other(self):
        found = set()
        for own in SOME:
            for place in range(places(own)):
                for most in (0, 1, 4):
                    self.check_least(own, place, most, found)
        self.assertLessEqual({0, 1, 2, None}, found)

    def check_least(self, own, place, most, found):
        for number in range(most + 1):
            lates = tuple(number if p == place else 0 for p in range(places(own)))
            if late_machine(own, lates) is None:
                self.assertRaises(TooMuch, late.least_late, own, place, most)
                found.add("too much")
                return
            if not surely_together(plain.handed(late_machine(own, lates), ())):
                self.assertEqual(late.least_late(own, place, most), number)
                found.add(number)
                return
        self.assertIsNone(late.least_late(own, place, most))
        found.add(None)

    def test_too_much_comes_only_where_it_comes_to_it(self):
        # Late by 0 harms already; by 6 there would be too many arrows.
        step = (((1,), (0,), (1,), (1,)), None)
        own = ((step,), (("any", ((0, 0),)),))
        self.assertRaises(TooMuch, late.late_machine, own, (0, 6, 0, 0))
        self.assertEqual(late.least_late(own, 1, 6), 0)
        calm = (((((0,), (0,), (0,), (0,)), None),), (("any", ((0, 0),)),))
        self.assertRaises(TooMuch, late.late_machine, calm, (6, 0, 0, 0))
        self.assertRaises(TooMuch, late.least_late, calm, 0, 6)
        self.assertIsNone(late.least_late(calm, 0, 4))
        self.assertIsNone(late.least_late(calm, 1, 6))

    def test_no_such_place(self):
        wide = (((((2,), (2,), (2,)), None),) * 24, (("any", tuple((k, 0) for k in range(24))),))
        for own, place in ((THREE, 3), (THREE, -1), (LONE, 1), (wide, 4)):
            with self.assertRaises(NoPlace) as caught:
                late.least_late(own, place, 4)
            self.assertEqual(caught.exception.place, place)

    def test_one_place(self):
        self.assertIsNone(late.least_late(LONE, 0, 4))
        self.assertIs(late.late_harms(LONE_OURS, (4,)), False)
        self.assertIsNone(late.late_paper(LONE, (4,)))


class Papers(unittest.TestCase):
    def test_late_harms_exactly_if_there_is_a_paper(self):
        rng = random.Random(6)
        many = 0
        for own in SOME:
            for lates in [(0,) * places(own), drawn_late(rng, own, 3)]:
                made = late_machine(own, lates)
                if made is not None:
                    thing = late.late_paper(own, lates)
                    self.assertEqual(thing is not None, late.late_harms(own, lates))
                    self.assertIs(late.is_late_paper(own, lates, thing), thing is not None)
                    self.assertIs(plain.ring(made, thing) if thing else False, thing is not None)
                    many += thing is not None
        self.assertGreater(many, 30)

    def test_many_papers_against_the_words(self):
        rng = random.Random(7)
        right = 0
        for own in SOME:
            lates = drawn_late(rng, own, 1)
            made = late_machine(own, lates)
            every = plain.every_camps(len(spots(lates)))
            for _ in range(30 if made and every else 0):
                thing = (rng.choice(every), drawn_row(rng, made, 0, rng.randint(0, 5)))
                self.assertIs(late.is_late_paper(own, lates, thing), plain.ring(made, thing))
                right += plain.ring(made, thing)
        self.assertGreater(right, 30)

    def test_things_of_every_kind(self):
        for own, lates in ((THREE, (0, 1, 0)), (TAME, (0, 0, 0)), (SWAP, (1, 1)), (DUO, (0, 1, 0))):
            made = late_machine(own, lates)
            thing = late.late_paper(own, lates)
            check_kind(self, lambda one: late.is_late_paper(own, lates, one), lambda one: plain.ring(made, one), thing)


class Calls(unittest.TestCase):
    def test_every_row_of_arguments(self):
        crowd = ((WILD[0][0],) * 201, (("any", tuple((k, 0) for k in range(201))),))
        for own, lates in ((THREE, (0, 1, 0)), (TAME, (0, 0, 0)), (TOLD, (1, 1)), (BOTH, (1, 1)), (crowd, (0, 0, 0))):
            check_call(self, late.reads_itself, {"machine": own})
            check_call(self, late.late_machine, {"machine": own, "late": lates})
            check_call(self, late.late_harms, {"machine": own, "late": lates})
            check_call(self, late.late_paper, {"machine": own, "late": lates})
            check_call(self, late.is_late_paper, {"machine": own, "late": lates, "thing": (((0,), (1,)), (0,))})
            for place in (0, 5):
                check_call(self, late.least_late, {"machine": own, "place": place, "most": 1})
            looks = own[0][0][0]
            check_call(self, late.ages_of, {"looks": looks, "late": lates})
            check_call(self, late.spots, {"late": lates})
            for ages in (late.ages_of(looks, lates)[-1], ((7,) * 3,) * 3):
                check_call(self, late.late_looks, {"looks": looks, "late": lates, "ages": ages})
        self.assertEqual(plain_steps.looks(late.late_looks(THREE[0][0][0], (0, 0, 0), ((0,), (0,), (0, 0))), 3), True)


if __name__ == "__main__":
    unittest.main()
