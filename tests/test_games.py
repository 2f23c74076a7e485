"""Section 9: games about camps."""

import random
import unittest

from nearercamps.camps import all_camps, are_within
from nearercamps.errors import CanNot, NoPlace
from nearercamps.games import are_kill_ranks, best_arrows, can_kill, game_row, is_keeping_table, keeping_table
from nearercamps.games import kill_rank, kill_ranks
from nearercamps.machines import one_choice, places_of
from tests import plain_machines as plain
from tests.calls import check_call
from tests.drawn import DUO, FIRST, LONE, LONE_OURS, NAMED, SECOND, SIX_TURN, TAME, TOLD, TURN, TWO, WILD
from tests.drawn import drawn_machines
from tests.support import as_lists, check_kind

SPLIT = ((0, 1), (2,))
# At the beginning anybody may go on to a stand of ours, at which all arrows lead home.
MIXED = ((FIRST, SECOND, FIRST), (("any", ((0, 1), (1, 2))), ("ours", ((0, 0), (1, 0), (2, 0))), ("ours", ((1, 0),))))


class Ranks(unittest.TestCase):
    def test_against_the_game_counted_move_by_move(self):
        for own in drawn_machines(1, 80, 4) + list(NAMED) + [MIXED]:
            game = plain.Game(own)
            expected = tuple(sorted((k, camps, rank) for (k, camps), rank in game.ranks.items()))
            self.assertEqual(kill_ranks(own), expected)
            for k, camps in game.spots:
                self.assertEqual(kill_rank(own, k, camps), game.ranks.get((k, camps)))
                self.assertIs(can_kill(own, k, camps), (k, camps) in game.ranks)
            kept = tuple(spot for spot in game.spots if spot not in game.ranks)
            if kept == ():
                with self.assertRaises(CanNot):
                    keeping_table(own)
            else:
                self.assertEqual(keeping_table(own), kept)

    def test_six_places(self):
        game = plain.Game(SIX_TURN)
        ranks = kill_ranks(SIX_TURN)
        self.assertEqual({triple[:2]: triple[2] for triple in ranks}, game.ranks)
        self.assertIs(are_kill_ranks(SIX_TURN, ranks), True)
        self.assertGreater(max(triple[2] for triple in ranks), 5)

    def test_one_place_has_no_camps(self):
        for own in (LONE, LONE_OURS):
            self.assertEqual(kill_ranks(own), ())
            self.assertIs(are_kill_ranks(own, ()), True)
            self.assertIs(is_keeping_table(own, ()), False)
            with self.assertRaises(CanNot):
                keeping_table(own)

    def test_whose_stand_it_is(self):
        self.assertEqual([kill_rank(TAME, 0, camps) for camps in (((0,), (1,)), SPLIT, ((0, 2), (1,)))], [1, 1, 2])
        self.assertIs(kill_rank(WILD, 0, ((0,), (1,))), None)
        self.assertEqual(kill_rank(WILD, 0, ((0,), (2,))), 1)
        self.assertEqual([kill_rank(DUO, k, SPLIT) for k in (0, 1)], [2, 1])

    def test_all_is_told_by_one_of_both(self):
        for own in drawn_machines(2, 60, 4):
            ranked = [triple[:2] for triple in kill_ranks(own)]
            kept = list(plain_keeping(own))
            spots = [(k, camps) for k in range(len(own[1])) for camps in all_camps(places_of(own))]
            self.assertEqual(sorted(ranked + kept), spots)
            self.assertIs(are_kill_ranks(own, kill_ranks(own)), True)
            if kept:
                self.assertIs(is_keeping_table(own, keeping_table(own)), True)

    def test_within_others_the_rank_is_no_greater(self):
        for own in drawn_machines(3, 30, 4, 3):
            ranks = {triple[:2]: triple[2] for triple in kill_ranks(own)}
            for (k, other), rank in ranks.items():
                for camps in all_camps(places_of(own)):
                    if are_within(camps, other):
                        self.assertLessEqual(ranks[(k, camps)], rank)

    def test_no_such_stand(self):
        for stand in (-1, 1, 10 ** 20):
            for call in (lambda: kill_rank(WILD, stand, SPLIT), lambda: can_kill(WILD, stand, SPLIT),
                         lambda: best_arrows(WILD, stand, SPLIT), lambda: game_row(WILD, stand, SPLIT, 3)):
                with self.assertRaises(NoPlace) as held:
                    call()
                self.assertEqual(held.exception.place, stand)
        with self.assertRaises(NoPlace):
            kill_rank(DUO, 2, SPLIT)
        with self.assertRaises(NoPlace):
            game_row(DUO, 2, SPLIT, 0)


def plain_keeping(own):
    game = plain.Game(own)
    return [spot for spot in game.spots if spot not in game.ranks]


def lifted(rng, ranks):
    """Return KILL RANKS of the same spots with greater ranks in a like order."""
    return tuple((k, camps, 3 * rank + rng.randint(0, 2)) for k, camps, rank in ranks)


class AreKillRanks(unittest.TestCase):
    def test_right_ones_with_one_flaw(self):
        for own in (TAME, DUO, WILD):
            game = plain.Game(own)
            check_kind(self, lambda thing: are_kill_ranks(own, thing), game.are_kill_ranks, kill_ranks(own))
        both = ((0, SPLIT, 1), (0, ((0, 2), (1,)), 2))
        for own, right in ((WILD, ()), (TAME, both), (TAME, ((0, SPLIT, 10 ** 40),))):
            check_kind(self, lambda thing: are_kill_ranks(own, thing), plain.Game(own).are_kill_ranks, right)

    def test_parts_and_greater_ranks(self):
        rng = random.Random(4)
        found = {True: 0, False: 0}
        for own in drawn_machines(4, 80, 3, 4):
            game = plain.Game(own)
            ranks = kill_ranks(own)
            things = [lifted(rng, ranks), tuple(own for own in lifted(rng, ranks) if rng.random() < 0.9)]
            things += [tuple(own for own in ranks if own[2] <= 2), tuple((k, c, max(1, r - 1)) for k, c, r in ranks)]
            for thing in things:
                expected = game.are_kill_ranks(thing)
                found[expected] += 1
                self.assertIs(are_kill_ranks(own, thing), expected)
        self.assertGreater(min(found.values()), 20)

    def test_a_spot_stands_in_it_once_only(self):
        self.assertIs(are_kill_ranks(TAME, ((0, SPLIT, 1),)), True)
        self.assertIs(are_kill_ranks(TAME, ((0, SPLIT, 1), (0, SPLIT, 2))), False)
        self.assertIs(are_kill_ranks(TAME, ((0, SPLIT, 1), (0, SPLIT, 1))), False)

    def test_equal_ranks_are_not_lesser_ones(self):
        camps = ((0, 2), (1,))
        self.assertIs(are_kill_ranks(TAME, ((0, SPLIT, 1), (0, camps, 2))), True)
        self.assertIs(are_kill_ranks(TAME, ((0, SPLIT, 2), (0, camps, 2))), False)
        self.assertIs(are_kill_ranks(TAME, ((0, SPLIT, 3), (0, camps, 2))), False)

    def test_of_many_stands(self):
        many = 200
        own = ((FIRST, SECOND), tuple(("ours", ((0, (k + 1) % many), (1, (k + 1) % many))) for k in range(many)))
        ranks = kill_ranks(own)
        self.assertEqual(len(ranks), 6 * many)
        self.assertIs(are_kill_ranks(own, ranks), True)
        self.assertIs(are_kill_ranks(own, ranks[:-1]), True)
        self.assertIs(are_kill_ranks(own, ranks + ((many, SPLIT, 1),)), False)


class IsKeepingTable(unittest.TestCase):
    def test_right_ones_with_one_flaw(self):
        ours = one_choice("ours", (((((1,), (0,)), None)), (((0,), (1,)), None)))
        for own in (WILD, TURN, TWO, ours):
            game = plain.Game(own)
            check_kind(self, lambda thing: is_keeping_table(own, thing), game.is_keeping_table, keeping_table(own))
        right = ((0, ((0,), (1, 2))), (0, SPLIT))
        check_kind(self, lambda thing: is_keeping_table(WILD, thing), plain.Game(WILD).is_keeping_table, right)

    def test_parts_of_it(self):
        rng = random.Random(5)
        found = {True: 0, False: 0}
        for own in drawn_machines(5, 200, 3, 3):
            game = plain.Game(own)
            kept = plain_keeping(own)
            for some in (kept, kept[1:], kept[:-1], [spot for spot in kept if rng.random() < 0.6]):
                expected = game.is_keeping_table(tuple(some))
                found[expected] += 1
                self.assertIs(is_keeping_table(own, tuple(some)), expected)
        self.assertGreater(min(found.values()), 50)

    def test_each_arrow_of_ours_and_some_arrow_of_anybody_keeps_on(self):
        steps = ((((0,), (1,), (2,)), None), (((1,), (0,), (2,)), None))
        one, other = ((0,), (2,)), ((1,), (2,))
        for owner in ("ours", "any"):
            own = one_choice(owner, steps)
            self.assertIs(is_keeping_table(own, ((0, one), (0, other))), True)
            for camps in (one, other):
                self.assertIs(is_keeping_table(own, ((0, camps),)), owner == "any")
        swapped = one_choice("any", steps[1:])
        self.assertIs(is_keeping_table(swapped, ((0, one),)), False)

    def test_some_arrow_of_ours_and_each_arrow_of_anybody_is_good(self):
        for owner in ("ours", "any"):
            own = one_choice(owner, (FIRST, SECOND))
            self.assertIs(are_kill_ranks(own, ((0, SPLIT, 1),)), owner == "ours")
            self.assertIs(are_kill_ranks(own, ((0, ((0,), (2,)), 1),)), True)

    def test_the_empty_one_is_none(self):
        for own in NAMED:
            self.assertIs(is_keeping_table(own, ()), False)
            self.assertIs(are_kill_ranks(own, ()), True)


class Play(unittest.TestCase):
    def test_best_arrows_against_plain_ranks(self):
        for own in drawn_machines(6, 60, 4, more=3) + list(NAMED) + [MIXED]:
            game = plain.Game(own)
            for k, camps in game.spots:
                self.assertEqual(best_arrows(own, k, camps), game.best(k, camps))

    def test_dead_is_nought_and_none_more_than_each_number(self):
        self.assertEqual(best_arrows(TAME, 0, SPLIT), (0,))
        self.assertEqual(best_arrows(WILD, 0, SPLIT), (1,))
        self.assertEqual(best_arrows(WILD, 0, ((0,), (2,))), (0, 1))
        self.assertEqual(best_arrows(TURN, 0, SPLIT), (0,))
        self.assertEqual(best_arrows(MIXED, 1, SPLIT), (0, 2))
        ours = one_choice("ours", (((((1,), (0,)), None)), (((0,), (1,)), None)))
        self.assertEqual(best_arrows(ours, 0, ((0,), (1,))), (0, 1))

    def test_equal_steps_at_two_places_are_two_arrows(self):
        own = one_choice("ours", (FIRST, SECOND, FIRST))
        self.assertEqual(best_arrows(own, 0, SPLIT), (0, 2))
        self.assertEqual(game_row(own, 0, SPLIT, 5), (0,))

    def test_game_rows_against_plain_play(self):
        for own in drawn_machines(7, 50, 4) + list(NAMED):
            game = plain.Game(own)
            for k, camps in game.spots:
                for many in (0, 1, 7):
                    row, spot = [], (k, camps)
                    while spot is not None and len(row) < many:
                        row.append(game.best(*spot)[0])
                        spot = game.ends(*spot)[row[-1]]
                    self.assertEqual(game_row(own, k, camps, many), tuple(row))

    def test_a_game_lasts_as_many_arrows_as_the_rank(self):
        for own in drawn_machines(8, 40, 4):
            for k, camps, rank in kill_ranks(own):
                self.assertEqual(len(game_row(own, k, camps, 200)), rank)
                self.assertEqual(len(game_row(own, k, camps, rank - 1)), rank - 1)

    def test_many_from_nought_to_two_hundred(self):
        self.assertEqual(game_row(WILD, 0, SPLIT, 0), ())
        self.assertEqual(game_row(WILD, 0, SPLIT, 200), (1, 0) * 100)
        self.assertEqual(game_row(TAME, 0, SPLIT, 200), (0,))
        self.assertEqual(game_row(TURN, 1, SPLIT, 200), (0,) * 200)


class Calls(unittest.TestCase):
    def test_each_function_by_point_2(self):
        for own in (WILD, TAME, DUO, TURN, TOLD, LONE, MIXED):
            for function in (kill_ranks, keeping_table):
                told = check_call(self, function, {"machine": own})
                if told[0] == "result":
                    for thing in (told[1], as_lists(told[1]), told[1][1:]):
                        check_call(self, are_kill_ranks, {"machine": own, "thing": thing})
                        check_call(self, is_keeping_table, {"machine": own, "thing": thing})
            for camps in all_camps(places_of(own)):
                for stand in (0, len(own[1]) - 1, len(own[1]), -1):
                    for function in (kill_rank, can_kill, best_arrows):
                        check_call(self, function, {"machine": own, "stand": stand, "camps": camps})
                    check_call(self, game_row, {"machine": own, "stand": stand, "camps": camps, "many": 9})

    def test_second_alone(self):
        self.assertEqual(kill_rank(one_choice("any", (SECOND,)), 0, ((0,), (1,))), 1)


if __name__ == "__main__":
    unittest.main()
