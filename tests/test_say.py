"""Point 16: who is heard."""

import random
import unittest
from fractions import Fraction

from nearercamps import say
from nearercamps.errors import CanNot, NoPlace
from nearercamps.owners import handed_over
from nearercamps.runs import run_by
from tests import plain_machines as plain
from tests import plain_steps
from tests.calls import check_call
from tests.drawn import DUO, FIRST, LONE, LONE_OURS, NAMED, SECOND, SIX_TURN, TAME, TURN, WILD
from tests.drawn import drawn_machines, drawn_row
from tests.plain_lots import Lots, hearers
from tests.support import check_kind

DRAWN = (((((0, 1), (1,)), None),), (("any", ((0, 0),)),))
STILL = (((((0,), (1,), (2,)), None), FIRST), (("ours", ((0, 1), (1, 0))), ("any", ((0, 0), (1, 0)))))
SOME = tuple(drawn_machines(601, 45, 4, 4)) + NAMED + (DRAWN, STILL)
SINGLE = ("ever_heard", "heard_row", "surely_heard", "heard_moves", "unheard_ring", "can_be_heard", "voice_plan",
          "mute_plan")
JUDGES = ("is_unheard_ring", "is_voice_plan", "is_mute_plan")


def places(own):
    return len(own[0][0][0])


def lots(own, lot):
    return Lots(own, hearers, lot, tuple(range(places(own))))


CASES = [(own, lot) for own in SOME for lot in plain_steps.lots_of(places(own))]


class Heard(unittest.TestCase):
    def test_hearers_on_the_way(self):
        rng = random.Random(3)
        for own, lot in CASES:
            for many in (0, 1, 5):
                row = drawn_row(rng, own, 0, many)
                self.assertEqual(say.hearers_along(own, row, lot), lots(own, lot).along(row))
        self.assertEqual(say.hearers_along(WILD, (), (0, 2)), [(0, 2)])
        self.assertEqual(say.hearers_along(DRAWN, (0, 0), (0,)), [(0,), (0,), (0,)])
        self.assertEqual(say.hearers_along(WILD, (0, 1), (2,)), [(2,), (), ()])

    def test_what_is_no_row(self):
        for own, row, place in ((WILD, (0, 2, 3), 2), (TURN, (0, 0, 1), 1), (LONE, (-1,), -1)):
            with self.assertRaises(NoPlace) as caught:
                say.hearers_along(own, row, (0,))
            self.assertEqual(caught.exception.place, place)

    def test_rows_behind_which_a_lot_is_heard(self):
        told = {True: 0, False: 0}
        for own, lot in CASES:
            game = lots(own, lot)
            # A shortest row to all places goes through no pair of a stand and hearers twice.
            alive, met = {(0, lot)}, set()
            while alive - met:
                met |= alive
                alive = {end for k, some in alive for end in game.ends(k, some)}
            ever = any(some == game.goal for _, some in met)
            self.assertIs(say.ever_heard(own, lot), ever)
            told[ever] += 1
            if not ever:
                self.assertRaises(CanNot, say.heard_row, own, lot)
                continue
            row = say.heard_row(own, lot)
            self.assertEqual(game.along(row)[-1], game.goal)
            if len(row) < 7:
                shorter = [own_row for many in range(len(row) + 1) for own_row in plain.rows(own, 0, many)]
                self.assertEqual(row, next(one for one in shorter if game.along(one)[-1] == game.goal))
        self.assertGreater(min(told.values()), 20)

    def test_the_least_of_the_shortest_rows(self):
        own = ((SECOND, FIRST, FIRST), (("any", ((0, 0), (1, 0), (2, 0))),))
        self.assertEqual(say.heard_row(own, (0,)), (1, 1))
        self.assertEqual(say.heard_row(own, (1,)), (0, 1, 1))
        self.assertEqual(say.heard_row(own, (0, 1)), (1,))
        self.assertEqual(say.heard_row(own, (0, 1, 2)), ())

    def test_in_every_run_and_by_a_rule_of_ours(self):
        told = {True: 0, False: 0}
        for own, lot in CASES:
            game = lots(own, lot)
            moves, ranks = game.moves(), game.ranks()
            self.assertEqual(say.heard_moves(own, lot), moves)
            self.assertIs(say.surely_heard(own, lot), moves is not None)
            self.assertEqual(say.can_be_heard(own, lot), (0, lot) in ranks)
            told[say.surely_heard(own, lot)] += 1
            for many in range(4):
                over = all(game.along(row)[-1] == game.goal for row in plain.rows(own, 0, many))
                self.assertEqual(over, moves is not None and many >= moves)
        self.assertGreater(min(told.values()), 20)

    def test_wider_lots_are_heard_too(self):
        for name in ("ever_heard", "surely_heard", "can_be_heard"):
            for own in SOME[:25]:
                every = plain_steps.lots_of(places(own))
                heard = [lot for lot in every if getattr(say, name)(own, lot)]
                for lot in heard:
                    self.assertTrue(all(one in heard for one in every if set(lot) <= set(one)))


class Plans(unittest.TestCase):
    def test_a_voice_plan_or_a_mute_plan_never_both(self):
        kinds = set()
        for own, lot in CASES:
            game = lots(own, lot)
            kinds.add((say.can_be_heard(own, lot), any(owner == "ours" for owner, _ in own[1])))
            if say.can_be_heard(own, lot):
                plan = say.voice_plan(own, lot)
                self.assertTrue(say.is_voice_plan(own, lot, plan) and game.is_plan(plan))
                self.assertRaises(CanNot, say.mute_plan, own, lot)
                self.assertFalse(say.is_mute_plan(own, lot, plan))
            else:
                plan = say.mute_plan(own, lot)
                self.assertTrue(say.is_mute_plan(own, lot, plan) and game.is_shun(plan))
                self.assertRaises(CanNot, say.voice_plan, own, lot)
                self.assertFalse(say.is_voice_plan(own, lot, plan))
            free = handed_over(own, ())
            self.assertEqual(say.can_be_heard(free, lot), say.surely_heard(own, lot))
            if say.surely_heard(own, lot):
                self.assertTrue(say.is_voice_plan(free, lot, say.voice_plan(free, lot)))
                self.assertRaises(CanNot, say.unheard_ring, own, lot)
            else:
                ring = say.unheard_ring(own, lot)
                self.assertTrue(say.is_unheard_ring(own, lot, ring))
                self.assertTrue(game.is_ring(ring, lambda there, behind: behind <= there))
        self.assertEqual(len(kinds), 4)

    def test_plans_with_parts_left_out_or_changed(self):
        for own, lot in CASES[::2]:
            game = lots(own, lot)
            right = say.voice_plan(own, lot) if say.can_be_heard(own, lot) else say.mute_plan(own, lot)
            others = [right[:k] + right[k + 1:] for k in range(len(right))]
            for k, part in enumerate(right):
                if len(part) == 4:
                    others += [right[:k] + (part[:2] + (rank, part[3]),) + right[k + 1:] for rank in (1, 2, 9)]
                for arrow in (0, 1, 2, None):
                    others.append(right[:k] + (part[:-1] + (arrow,),) + right[k + 1:])
            for thing in others:
                self.assertIs(say.is_voice_plan(own, lot, thing), game.is_plan(thing))
                self.assertIs(say.is_mute_plan(own, lot, thing), game.is_shun(thing))

    def test_all_short_rows_and_rings(self):
        for own, lot in CASES[::7]:
            game = lots(own, lot)
            for many in range(3):
                for row in plain.rows(own, 0, many):
                    end = plain.way(own, 0, row)[1][-1]
                    for ring in [ring for more in range(4) for ring in plain.rows(own, end, more)]:
                        right = game.is_ring((row, ring), lambda there, behind: behind <= there)
                        self.assertIs(say.is_unheard_ring(own, lot, (row, ring)), right)

    def test_things_of_every_kind(self):
        for own, lot in ((TAME, (0,)), (WILD, (0,)), (STILL, (0,)), (DUO, (0, 1)), (STILL, (2,)), (LONE, (0,))):
            game = lots(own, lot)
            if say.can_be_heard(own, lot):
                check_kind(self, lambda thing: say.is_voice_plan(own, lot, thing), game.is_plan,
                           say.voice_plan(own, lot))
            else:
                check_kind(self, lambda thing: say.is_mute_plan(own, lot, thing), game.is_shun,
                           say.mute_plan(own, lot))
            if not say.surely_heard(own, lot):
                check_kind(self, lambda thing: say.is_unheard_ring(own, lot, thing),
                           lambda thing: game.is_ring(thing, lambda there, behind: behind <= there),
                           say.unheard_ring(own, lot))

    def test_hearers_may_be_none(self):
        self.assertIs(say.is_mute_plan(WILD, (0,), ((0, (), 0), (0, (0,), 1))), True)
        self.assertIs(say.is_mute_plan(WILD, (0,), ((0, (), 1), (0, (0,), 1))), True)
        self.assertIs(say.is_mute_plan(WILD, (0,), ((0, (), None), (0, (0,), 1))), False)
        self.assertIs(say.is_mute_plan(WILD, (0,), ((0, (0,), 1),)), False)
        self.assertIs(say.is_voice_plan(TAME, (0,), ((0, (), 5, 0), (0, (0,), 2, 0), (0, (0, 1), 1, 0))), False)

    def test_lot_all_places(self):
        for own in (WILD, DUO, LONE, LONE_OURS, SIX_TURN):
            lot = tuple(range(places(own)))
            for name in ("surely_heard", "can_be_heard", "ever_heard"):
                self.assertIs(getattr(say, name)(own, lot), True)
            self.assertEqual((say.heard_moves(own, lot), say.heard_row(own, lot)), (0, ()))
            self.assertIs(say.is_voice_plan(own, lot, ()), True)
            self.assertTrue(say.is_voice_plan(own, lot, say.voice_plan(own, lot)))
            self.assertIs(say.is_mute_plan(own, lot, ()), False)
            self.assertRaises(CanNot, say.mute_plan, own, lot)
            self.assertRaises(CanNot, say.unheard_ring, own, lot)
        self.assertIs(say.is_voice_plan(TAME, (0, 1, 2), ((0, (0, 1), 1, 0),)), True)
        self.assertIs(say.is_voice_plan(TAME, (0, 1, 2), ((0, (0, 1), 1, 1),)), False)
        self.assertIs(say.is_voice_plan(TAME, (0, 1), ()), False)


class Voices(unittest.TestCase):
    def test_against_all_lots(self):
        sizes, silent = set(), set()
        for own in SOME:
            heard = [lot for lot in plain_steps.lots_of(places(own)) if lots(own, lot).moves() is not None]
            right = sorted(lot for lot in heard if not any(set(one) < set(lot) for one in heard))
            self.assertEqual(say.least_voices(own), right)
            sizes |= {len(lot) for lot in right}
            right = tuple(p for p in range(places(own)) if not say.ever_heard(own, (p,)))
            self.assertEqual(say.silent_places(own), right)
            silent.add(len(right))
        self.assertLessEqual({1, 2, 3}, sizes)
        self.assertLessEqual({0, 1, 2}, silent)
        self.assertEqual((say.least_voices(LONE), say.silent_places(LONE)), ([(0,)], ()))
        self.assertEqual(say.silent_places(SIX_TURN), ())

    def test_every_row_of_arguments(self):
        for own, lot in ((WILD, (0,)), (TAME, (0,)), (LONE, (0,)), (DRAWN, (1,)), (STILL, (0, 1))):
            check_call(self, say.least_voices, {"machine": own})
            check_call(self, say.silent_places, {"machine": own})
            for name in SINGLE:
                check_call(self, getattr(say, name), {"machine": own, "lot": lot})
            for thing in (((0, (0,), 2, 0), (0, (0, 1), 1, 0)), ((), (0, 1)), ((0, (), 0), (0, (0,), 1)), ()):
                for name in JUDGES:
                    check_call(self, getattr(say, name), {"machine": own, "lot": lot, "thing": thing})
            for row in ((), (0, 0), (0, 5)):
                check_call(self, say.hearers_along, {"machine": own, "row": row, "lot": lot})


class Numbers(unittest.TestCase):
    def test_the_weights_of_a_lot_are_above_nought_where_its_hearers_are(self):
        rng = random.Random(4)
        for own, lot in CASES:
            row = drawn_row(rng, own, 0, 6)
            steps = [own[0][step] for step in plain.way(own, 0, row)[0]]
            shares = [plain_steps.draw_shares(rng, looks) if told is None else told for looks, told in steps]
            start = tuple((1, 1) if p in lot else (0, 1) for p in range(places(own)))
            d = min(Fraction(*s) for rows in shares for part in rows for s in part)
            states = run_by(own, row, start, shares)
            for moves, (state, there) in enumerate(zip(states, say.hearers_along(own, row, lot))):
                self.assertEqual(tuple(p for p, number in enumerate(state) if number[0] > 0), there)
                self.assertTrue(all(Fraction(*state[p]) >= d ** moves for p in there))


if __name__ == "__main__":
    unittest.main()
