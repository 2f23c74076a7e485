"""Point 15: who holds all others."""

import random
import unittest
from fractions import Fraction

from nearercamps import stubborn
from nearercamps.errors import CanNot, NoPlace, Unfit
from nearercamps.owners import handed_over
from nearercamps.runs import run_by
from tests import plain_machines as plain
from tests import plain_steps
from tests.calls import check_call
from tests.drawn import DUO, LONE, LONE_OURS, NAMED, SIX_TURN, TOLD, TURN, WILD, drawn_machines, drawn_row
from tests.plain_lots import Lots, outside
from tests.support import check_kind

HEAR, NAP = (((0,), (0, 2), (2,)), None), (((0,), (1,), (2,)), None)
FREE, OURS = [((HEAR, NAP), ((owner, ((0, 0), (1, 0))),)) for owner in ("any", "ours")]
SHARES = (((1, 3), (2, 3)), ((1, 1),), ((1, 4), (3, 4)))
TOLD_POSTS = (((((0, 1), (0,), (1, 2)), SHARES), (((1,), (2,), (0, 1, 2)), None)), (("any", ((0, 0), (1, 0))),))
SOME = tuple(drawn_machines(501, 50, 4, 4)) + NAMED + (FREE, OURS)
CALLS = ("holds", "can_hold", "hold_moves", "outside_ring", "hold_plan", "slip_plan")
JUDGES = ("is_outside_ring", "is_hold_plan", "is_slip_plan")


def places(own):
    return len(own[0][0][0])


def closed(own, lot):
    return all(set(own[0][step][0][p]) <= set(lot) for _, arrows in own[1] for step, _ in arrows for p in lot)


def lots(own, lot):
    return Lots(own, outside, tuple(p for p in range(places(own)) if p not in lot), ())


def posted(own, lot):
    steps = []
    for looks, shares in own[0]:
        new = tuple((p,) if p in lot else seen for p, seen in enumerate(looks))
        rows = None if shares is None else tuple(((1, 1),) if p in lot else row for p, row in enumerate(shares))
        steps.append((new, rows))
    return tuple(steps), own[1]


def cases():
    """Return pairs of a MACHINE and a closed LOT: all there are, and more where the places of a LOT stand."""
    rng = random.Random(9)
    found = [(own, lot) for own in SOME for lot in plain_steps.lots_of(places(own)) if closed(own, lot)]
    for own in SOME:
        lot = rng.choice(plain_steps.lots_of(places(own)))
        found.append((posted(own, lot), lot))
    return found


CASES = cases()


class Closed(unittest.TestCase):
    def test_against_plain_counting(self):
        for own in SOME + (SIX_TURN,):
            every = plain_steps.lots_of(places(own))
            for lot in every:
                self.assertIs(stubborn.is_closed_in(own, lot), closed(own, lot))
            self.assertEqual(stubborn.closed_in(own), [lot for lot in sorted(every) if closed(own, lot)])

    def test_steps_that_no_arrow_has_do_not_count(self):
        own = ((HEAR, (((1,), (1,), (1,)), None)), (("any", ((0, 0),)),))
        self.assertEqual(stubborn.closed_in(own), [(0,), (0, 1, 2), (0, 2), (2,)])

    def test_posted_and_told_shares(self):
        for own in SOME + (TOLD_POSTS,):
            for lot in plain_steps.lots_of(places(own)):
                self.assertEqual(stubborn.posted(own, lot), posted(own, lot))
                self.assertTrue(stubborn.is_closed_in(posted(own, lot), lot))
        self.assertEqual(stubborn.posted(TOLD_POSTS, (0, 2))[0],
                         ((((0,), (0,), (2,)), (((1, 1),),) * 3), (((0,), (2,), (2,)), None)))
        unused = ((HEAR, NAP, (((1,), (1,), (1,)), None)), FREE[1])
        self.assertEqual(stubborn.posted(unused, (2,))[0][2], (((1,), (1,), (2,)), None))

    def test_outsides_on_the_way(self):
        rng = random.Random(3)
        for own in SOME:
            for lot in plain_steps.lots_of(places(own)):
                for many in (0, 1, 4):
                    row = drawn_row(rng, own, 0, many)
                    self.assertEqual(stubborn.outside_along(own, row, lot), lots(own, lot).along(row))
        self.assertEqual(stubborn.outside_along(WILD, (), (0, 1, 2)), [()])
        self.assertEqual(stubborn.outside_along(LONE, (0, 0), (0,)), [(), (), ()])

    def test_what_is_no_row(self):
        for own, row, place in ((WILD, (0, 2, 3), 2), (TURN, (0, 0, 1), 1), (LONE, (-1,), -1)):
            with self.assertRaises(NoPlace) as caught:
                stubborn.outside_along(own, row, (0,))
            self.assertEqual(caught.exception.place, place)


class Holding(unittest.TestCase):
    def test_against_plain_counting(self):
        told = {True: 0, False: 0}
        for own, lot in CASES:
            game = lots(own, lot)
            moves, ranks = game.moves(), game.ranks()
            self.assertEqual(stubborn.hold_moves(own, lot), moves)
            self.assertIs(stubborn.holds(own, lot), moves is not None)
            self.assertEqual(stubborn.can_hold(own, lot), (0, game.first) in ranks)
            told[stubborn.holds(own, lot)] += 1
        self.assertGreater(min(told.values()), 20)

    def test_rows_one_by_one(self):
        for own, lot in CASES:
            moves = stubborn.hold_moves(own, lot)
            for many in range(5):
                rows = plain.rows(own, 0, many)
                over = all(lots(own, lot).along(row)[-1] == () for row in rows)
                self.assertEqual(over, moves is not None and many >= moves)

    def test_a_plan_of_ours_or_one_against_us_never_both(self):
        kinds = set()
        for own, lot in CASES:
            game = lots(own, lot)
            kinds.add((stubborn.can_hold(own, lot), any(owner == "ours" for owner, _ in own[1])))
            if stubborn.can_hold(own, lot):
                plan = stubborn.hold_plan(own, lot)
                self.assertTrue(stubborn.is_hold_plan(own, lot, plan) and game.is_plan(plan))
                self.assertRaises(CanNot, stubborn.slip_plan, own, lot)
                self.assertFalse(stubborn.is_slip_plan(own, lot, plan))
            else:
                plan = stubborn.slip_plan(own, lot)
                self.assertTrue(stubborn.is_slip_plan(own, lot, plan) and game.is_shun(plan))
                self.assertRaises(CanNot, stubborn.hold_plan, own, lot)
                self.assertFalse(stubborn.is_hold_plan(own, lot, plan))
            free = handed_over(own, ())
            self.assertEqual(stubborn.can_hold(free, lot), stubborn.holds(own, lot))
            if stubborn.holds(own, lot):
                self.assertTrue(stubborn.is_hold_plan(free, lot, stubborn.hold_plan(free, lot)))
                self.assertRaises(CanNot, stubborn.outside_ring, own, lot)
            else:
                ring = stubborn.outside_ring(own, lot)
                self.assertTrue(stubborn.is_outside_ring(own, lot, ring))
                self.assertTrue(game.is_ring(ring, lambda there, behind: there <= behind))
        self.assertEqual(len(kinds), 4)

    def test_plans_with_parts_left_out_or_ranks_changed(self):
        for own, lot in CASES:
            game = lots(own, lot)
            right = stubborn.hold_plan(own, lot) if stubborn.can_hold(own, lot) else stubborn.slip_plan(own, lot)
            others = [right[:k] + right[k + 1:] for k in range(len(right))]
            for k, part in enumerate(right):
                if len(part) == 4:
                    others += [right[:k] + (part[:2] + (rank, part[3]),) + right[k + 1:] for rank in (1, 2, 3, 9)]
                for arrow in (0, 1, 2, None):
                    others.append(right[:k] + (part[:-1] + (arrow,),) + right[k + 1:])
            for thing in others:
                self.assertIs(stubborn.is_hold_plan(own, lot, thing), game.is_plan(thing))
                self.assertIs(stubborn.is_slip_plan(own, lot, thing), game.is_shun(thing))

    def test_all_short_rows_and_rings(self):
        for own, lot in CASES[::4]:
            game = lots(own, lot)
            for many in range(3):
                for row in plain.rows(own, 0, many):
                    end = plain.way(own, 0, row)[1][-1]
                    for ring in [ring for more in range(4) for ring in plain.rows(own, end, more)]:
                        right = game.is_ring((row, ring), lambda there, behind: there <= behind)
                        self.assertIs(stubborn.is_outside_ring(own, lot, (row, ring)), right)

    def test_things_of_every_kind(self):
        two = ((NAP, HEAR), (("ours", ((0, 1), (1, 1))), ("any", ((1, 0), (0, 0)))))
        for own, lot in ((OURS, (0, 2)), (FREE, (0, 2)), (two, (0, 2)), (two, (0, 1, 2)), (LONE, (0,)),
                         (WILD, (0, 1, 2))):
            game = lots(own, lot)
            if stubborn.can_hold(own, lot):
                check_kind(self, lambda thing: stubborn.is_hold_plan(own, lot, thing), game.is_plan,
                           stubborn.hold_plan(own, lot))
            else:
                check_kind(self, lambda thing: stubborn.is_slip_plan(own, lot, thing), game.is_shun,
                           stubborn.slip_plan(own, lot))
            if not stubborn.holds(own, lot):
                check_kind(self, lambda thing: stubborn.is_outside_ring(own, lot, thing),
                           lambda thing: game.is_ring(thing, lambda there, behind: there <= behind),
                           stubborn.outside_ring(own, lot))

    def test_lot_all_places(self):
        for own in (WILD, DUO, LONE, LONE_OURS, SIX_TURN):
            lot = tuple(range(places(own)))
            self.assertEqual((stubborn.holds(own, lot), stubborn.can_hold(own, lot)), (True, True))
            self.assertEqual((stubborn.hold_moves(own, lot), stubborn.is_hold_plan(own, lot, ())), (0, True))
            self.assertTrue(stubborn.is_hold_plan(own, lot, stubborn.hold_plan(own, lot)))
            self.assertIs(stubborn.is_slip_plan(own, lot, ()), False)
            self.assertRaises(CanNot, stubborn.slip_plan, own, lot)
            self.assertRaises(CanNot, stubborn.outside_ring, own, lot)
        self.assertIs(stubborn.is_hold_plan(OURS, (0, 1, 2), ((0, (1,), 1, 0),)), True)
        self.assertIs(stubborn.is_hold_plan(OURS, (0, 1, 2), ((0, (1,), 1, 1),)), False)
        self.assertIs(stubborn.is_hold_plan(OURS, (0, 2), ()), False)

    def test_an_arrow_is_told_at_stands_of_ours_alone_with_one_arrow_too(self):
        once = ((HEAR,), (("ours", ((0, 0),)),))
        self.assertEqual(stubborn.hold_plan(once, (0, 2)), ((0, (1,), 1, 0),))
        self.assertIs(stubborn.is_hold_plan(once, (0, 2), ((0, (1,), 1, None),)), False)
        still = ((NAP,), (("any", ((0, 0),)),))
        self.assertEqual(stubborn.slip_plan(still, (0,)), ((0, (1, 2), 0),))
        self.assertIs(stubborn.is_slip_plan(still, (0,), ((0, (1, 2), None),)), False)
        self.assertEqual(stubborn.slip_plan(((NAP,), (("ours", ((0, 0),)),)), (0,)), ((0, (1, 2), None),))

    def test_lots_that_are_not_closed_are_refused_first(self):
        for own, lot in ((FREE, (0, 1)), (OURS, (1,)), (WILD, (0,)), (TOLD, (0,))):
            for name in CALLS:
                self.assertRaises(Unfit, getattr(stubborn, name), own, lot)
            for name in JUDGES:
                for thing in (None, (), ((), (0,)), ((0, (1,), 1, 0),)):
                    self.assertRaises(Unfit, getattr(stubborn, name), own, lot, thing)

    def test_every_row_of_arguments(self):
        for own, lot in ((FREE, (0, 2)), (OURS, (0, 2)), (OURS, (0,)), (LONE, (0,)), (TURN, (0, 1, 2)), (FREE, (0, 1))):
            check_call(self, stubborn.closed_in, {"machine": own})
            check_call(self, stubborn.least_posts, {"machine": own})
            for name in CALLS + ("is_closed_in", "posted"):
                check_call(self, getattr(stubborn, name), {"machine": own, "lot": lot})
            for thing in (((0, (1,), 1, 0),), ((), (1,)), ((0, (1,), 1),), ()):
                for name in JUDGES:
                    check_call(self, getattr(stubborn, name), {"machine": own, "lot": lot, "thing": thing})
            for row in ((), (0, 0), (0, 5)):
                check_call(self, stubborn.outside_along, {"machine": own, "row": row, "lot": lot})


class Posts(unittest.TestCase):
    def test_against_all_lots(self):
        sizes = set()
        for own in SOME + (TOLD_POSTS,):
            every = plain_steps.lots_of(places(own))
            holding = [lot for lot in every if lots(posted(own, lot), lot).moves() is not None]
            right = sorted(lot for lot in holding if not any(set(one) < set(lot) for one in holding))
            self.assertEqual(stubborn.least_posts(own), right)
            sizes |= {len(lot) for lot in right}
        self.assertLessEqual({1, 2, 3}, sizes)
        self.assertEqual(stubborn.least_posts(LONE), [(0,)])
        self.assertEqual(stubborn.least_posts(SIX_TURN), stubborn.least_posts(handed_over(SIX_TURN, ())))


class Numbers(unittest.TestCase):
    def shares(self, rng, own, row):
        steps = [own[0][step] for step in plain.way(own, 0, row)[0]]
        return [plain_steps.draw_shares(rng, looks) if told is None else told for looks, told in steps]

    def test_places_of_a_ring_stay_away_for_ever(self):
        rng = random.Random(6)
        for own, lot in CASES:
            if stubborn.holds(own, lot):
                continue
            row, ring = stubborn.outside_ring(own, lot)
            gone = row + ring * 3
            start = tuple((0, 1) if p in lot else (1, 1) for p in range(places(own)))
            shares = self.shares(rng, own, gone)
            for state in run_by(own, gone, start, shares):
                self.assertIn((1, 1), state)

    def test_the_distance_from_a_lot_that_stands_falls(self):
        rng = random.Random(7)
        for own in SOME:
            for lot in stubborn.least_posts(own)[:2]:
                held = stubborn.posted(own, lot)
                many = stubborn.hold_moves(held, lot)
                row = drawn_row(rng, held, 0, many)
                shares = self.shares(rng, held, row)
                d = min([Fraction(*s) for rows in shares for part in rows for s in part], default=Fraction(1))
                start = tuple((rng.randint(0, 9), 1) for _ in range(places(held)))
                first, last = [self.distance(state, lot) for state in (start, run_by(held, row, start, shares)[-1])]
                # All others are in lot if no move is needed, so that there is no distance.
                self.assertLessEqual(last, first * (1 - d ** many))

    def distance(self, state, lot):
        low, high = min(Fraction(*state[p]) for p in lot), max(Fraction(*state[p]) for p in lot)
        return max(max(low - Fraction(*number), Fraction(*number) - high, 0) for number in state)


if __name__ == "__main__":
    unittest.main()
