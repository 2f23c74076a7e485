"""Section 10: together, by a rule of ours."""

import random
import unittest
from fractions import Fraction

from nearercamps.camps import all_camps, led_along
from nearercamps.errors import Unfit
from nearercamps.games import are_kill_ranks, can_kill, is_keeping_table, keeping_table, kill_ranks
from nearercamps.looks import comes_together_alone
from nearercamps.machines import choices, one_choice, one_round, places_of, renamed, round_lengths
from nearercamps.together import camp_ring, is_camp_ring, is_our_paper, is_their_paper, our_paper, rule_arrow, rule_span
from nearercamps.together import surely_together, their_paper
from tests import plain_machines as plain
from tests import plain_steps
from tests.calls import check_call
from tests.drawn import DUO, FIRST, LONE, LONE_OURS, NAMED, SECOND, SIX_TURN, TAME, TOLD, TURN, TWO, WILD
from tests.drawn import drawn_machines, drawn_row
from tests.support import as_lists, check_kind

SPLIT = ((0, 1), (2,))
SIX_TAME = (SIX_TURN[0], (("ours", ((0, 0), (1, 0))),))


def lifted(rng, ranks):
    """Return KILL RANKS of the same spots with greater ranks in a like order."""
    return tuple((k, camps, 3 * rank + rng.randint(0, 2)) for k, camps, rank in ranks)


def pruned(rng, own, paper):
    """Return OUR PAPER with as few triples of paper as can be had by leaving out one after another."""
    for triple in rng.sample(paper, len(paper)):
        less = tuple(one for one in paper if one != triple)
        if triple[0] != 0 and is_our_paper(own, less):
            paper = less
    return paper


def followed(rng, own, paper, many):
    """Return a drawn row of so many arrows from the beginning that follows the rule of paper."""
    row, k = (), 0
    for _ in range(many):
        owner, arrows = own[1][k]
        if owner == "ours" and len(arrows) > 1:
            arrow = plain.rule_walk(own, paper, row)
        else:
            arrow = rng.randrange(len(arrows))
        row += (arrow,)
        k = arrows[arrow][1]
    return row


class Surely(unittest.TestCase):
    def test_all_that_is_the_same(self):
        found = {True: 0, False: 0}
        for own in drawn_machines(1, 200, 4) + list(NAMED) + [SIX_TURN, SIX_TAME]:
            game = plain.Game(own)
            expected = all((0, camps) in game.ranks for camps in game.every)
            found[expected] += 1
            ours, theirs = our_paper(own), their_paper(own)
            self.assertIs(surely_together(own), expected)
            self.assertIs(ours is not None, expected)
            self.assertIs(theirs is None, expected)
            if expected:
                self.assertEqual(ours, kill_ranks(own))
                self.assertIs(game.is_our_paper(ours) and is_our_paper(own, ours), True)
            else:
                self.assertIs(game.is_their_paper(theirs) and is_their_paper(own, theirs), True)
        self.assertGreater(min(found.values()), 40)

    def test_one_place(self):
        for own in (LONE, LONE_OURS):
            self.assertIs(surely_together(own), True)
            self.assertEqual(our_paper(own), ())
            self.assertIs(is_our_paper(own, ()), True)
            self.assertIs(their_paper(own), None)
            self.assertEqual(rule_span(own, ()), 0)
        self.assertIs(camp_ring(LONE), None)
        self.assertEqual([rule_arrow(LONE_OURS, (), row) for row in ((), (0,), (0, 0, 0))], [0, 0, 0])
        for row in ((1,), (0, 1), (2,), (-1,)):
            with self.assertRaises(Unfit):
                rule_arrow(LONE_OURS, (), row)
        with self.assertRaises(Unfit):
            rule_arrow(LONE, (), ())

    def test_six_places(self):
        self.assertIs(surely_together(SIX_TAME), True)
        paper = our_paper(SIX_TAME)
        self.assertEqual(len(paper), 301)
        self.assertEqual(rule_span(SIX_TAME, paper), 301 * (max(triple[2] for triple in paper) + 1))
        self.assertIs(surely_together(SIX_TURN), False)
        self.assertIs(is_their_paper(SIX_TURN, their_paper(SIX_TURN)), True)

    def test_one_step_gone_round_for_ever(self):
        rng = random.Random(2)
        for k in range(80):
            looks = plain_steps.draw_looks(rng, rng.randint(1, 5), k % 2 == 0)
            own = one_round(((looks, None),))
            self.assertIs(surely_together(own), comes_together_alone(looks))

    def test_whose_choices_they_are(self):
        expected = [(WILD, False), (TAME, True), (DUO, True), (TURN, False), (TWO, False)]
        self.assertEqual([(own, surely_together(own)) for own, _ in expected], expected)
        self.assertIs(surely_together(one_choice("any", (FIRST,))), True)

    def test_what_never_ends_that_there_is_our_paper(self):
        rng = random.Random(3)
        for own in drawn_machines(3, 150, 4):
            if surely_together(own):
                self.assertIs(surely_together(self.helped(rng, own)), True)

    def helped(self, rng, own):
        """Return own with wider LOOKS, more arrows at stands of ours and all these stands ours for sure."""
        steps, stands = own
        n = places_of(own)
        wide = tuple((tuple(tuple(sorted(set(lot) | {rng.randrange(n)})) for lot in looks), None) for looks, _ in steps)
        new = []
        for owner, arrows in stands:
            if owner == "ours":
                arrows = arrows + tuple((step, 0) for step in range(len(steps)) if (step, 0) not in arrows)
            new.append(("ours" if rng.random() < 0.3 else owner, arrows))
        return wide, tuple(new)

    def test_places_may_have_other_names(self):
        rng = random.Random(4)
        for own in drawn_machines(4, 60, 4):
            order = tuple(rng.sample(range(places_of(own)), places_of(own)))
            self.assertIs(surely_together(renamed(own, order)), surely_together(own))

    def test_told_shares_do_not_matter(self):
        for own in drawn_machines(5, 40, 3, told=True):
            free = (tuple((looks, None) for looks, _ in own[0]), own[1])
            self.assertEqual(our_paper(free), our_paper(own))
            self.assertEqual(their_paper(free), their_paper(own))


class Papers(unittest.TestCase):
    def test_is_our_paper_of_right_ones_with_one_flaw(self):
        rng = random.Random(6)
        for own in (TAME, DUO):
            game = plain.Game(own)
            for right in (kill_ranks(own), lifted(rng, kill_ranks(own))):
                check_kind(self, lambda thing: is_our_paper(own, thing), game.is_our_paper, right)

    def test_all_camps_of_the_beginning_are_told(self):
        paper = our_paper(DUO)
        for at, triple in enumerate(paper):
            less = paper[:at] + paper[at + 1:]
            self.assertIs(is_our_paper(DUO, less), plain.Game(DUO).is_our_paper(less))
            if triple[0] == 0:
                self.assertIs(is_our_paper(DUO, less), False)
        self.assertIs(are_kill_ranks(WILD, kill_ranks(WILD)), True)
        self.assertIs(is_our_paper(WILD, kill_ranks(WILD)), False)
        self.assertIs(is_our_paper(WILD, ()), False)

    def test_is_their_paper_of_right_ones_with_one_flaw(self):
        for own in (WILD, TURN, TWO):
            game = plain.Game(own)
            check_kind(self, lambda thing: is_their_paper(own, thing), game.is_their_paper, their_paper(own))
        right = (SPLIT, ((0, ((0,), (1, 2))), (0, SPLIT)))
        check_kind(self, lambda thing: is_their_paper(WILD, thing), plain.Game(WILD).is_their_paper, right)

    def test_camps_of_their_paper_stand_in_it(self):
        for own in drawn_machines(7, 60, 3):
            kept = [spot for spot in plain.Game(own).spots if not can_kill(own, *spot)]
            if kept:
                table = keeping_table(own)
                self.assertIs(is_keeping_table(own, table), True)
                for camps in all_camps(places_of(own)):
                    self.assertIs(is_their_paper(own, (camps, table)), (0, camps) in kept)

    def test_no_paper_of_both_kinds(self):
        for own in drawn_machines(8, 80, 3):
            self.assertIs(is_our_paper(own, kill_ranks(own)), surely_together(own))

    def test_against_their_paper_numbers_stay_apart(self):
        rng = random.Random(9)
        for own in drawn_machines(9, 60, 4):
            paper = their_paper(own)
            if paper is None:
                continue
            camps, table = paper
            n = places_of(own)
            numbers = [Fraction(p in camps[1]) if p in camps[0] + camps[1] else Fraction(1, 2) for p in range(n)]
            k = 0
            for _ in range(30):
                owner, arrows = own[1][k]
                kept = [part for part, (step, end) in enumerate(arrows)
                        if (end, plain.led(own[0][step][0], camps)) in table]
                arrow = rng.randrange(len(arrows)) if owner == "ours" else kept[0]
                step, k = arrows[arrow]
                looks = own[0][step][0]
                camps = plain.led(looks, camps)
                numbers = [sum(numbers[q] for q in lot) / len(lot) for lot in looks]
                self.assertEqual((min(numbers), max(numbers)), (0, 1))


class Rings(unittest.TestCase):
    def plain_ring(self, own):
        """Return whether some CAMPS come back at the beginning, led by rounds one behind another."""
        every = all_camps(places_of(own))
        ends = {camps: {led_along(own, 0, row, camps) for row in plain.rounds(own)} - {None} for camps in every}
        for camps in every:
            met = set(ends[camps])
            for _ in every:
                met |= {end for one in met for end in ends[one]}
            if camps in met:
                return True
        return False

    def test_a_ring_is_there_exactly_if_their_paper_is(self):
        found = {True: 0, False: 0}
        for own in drawn_machines(10, 150, 4, owners=("any",)) + drawn_machines(11, 80, 4, more=1):
            if choices(own, "ours") != ():
                continue
            ring = camp_ring(own)
            self.assertIs(ring is not None, self.plain_ring(own))
            self.assertIs(ring is None, their_paper(own) is None)
            found[ring is None] += 1
            if ring is not None:
                self.assertIs(is_camp_ring(own, ring), True)
                self.assertIs(plain.ring(own, ring), True)
        self.assertGreater(min(found.values()), 20)

    def test_is_camp_ring_of_right_ones_with_one_flaw(self):
        for own in (WILD, TURN, TWO):
            ring = camp_ring(own)
            check_kind(self, lambda thing: is_camp_ring(own, thing), lambda thing: plain.ring(own, thing), ring)
        long = (((0,), (1, 2)), (0, 1) * 3)
        check_kind(self, lambda thing: is_camp_ring(WILD, thing), lambda thing: plain.ring(WILD, thing), long)

    def test_through_the_beginning_and_within(self):
        self.assertIs(is_camp_ring(WILD, (((0,), (1,)), (0, 1))), True)
        self.assertIs(is_camp_ring(WILD, (((0,), (1,)), (0, 1) * 5000)), True)
        self.assertIs(is_camp_ring(WILD, (((0,), (1, 2)), ())), False)
        self.assertIs(is_camp_ring(TURN, (SPLIT, (0,))), False)
        grown = one_round(((((0,), (0,), (2,)), None),))
        self.assertIs(is_camp_ring(grown, (((0,), (2,)), (0,))), True)
        self.assertIs(is_camp_ring(grown, (((0, 1), (2,)), (0,))), True)
        shrunk = one_round(((((0,), (0, 2), (2,)), None),))
        self.assertIs(is_camp_ring(shrunk, (((0, 1), (2,)), (0,))), False)
        swapped = one_round(((((1,), (0,)), None),))
        self.assertIs(is_camp_ring(swapped, (((0,), (1,)), (0,))), True)

    def test_drawn_rows(self):
        rng = random.Random(12)
        found = {True: 0, False: 0}
        for own in drawn_machines(12, 300, 3, 3, owners=("any",)):
            for camps in all_camps(places_of(own)):
                thing = (camps, drawn_row(rng, own, 0, rng.randint(0, 5)))
                expected = plain.ring(own, thing)
                found[expected] += 1
                self.assertIs(is_camp_ring(own, thing), expected)
        self.assertGreater(min(found.values()), 20)

    def test_choices_of_ours_are_refused_first(self):
        for own in (DUO, TAME, LONE_OURS, TOLD):
            with self.assertRaises(Unfit):
                camp_ring(own)
            for thing in (None, 7, (), (SPLIT, (0,)), (((0,), (1,)), (0, 1))):
                with self.assertRaises(Unfit):
                    is_camp_ring(own, thing)
        alone = one_choice("ours", (((((1,), (0,)), None)),))
        self.assertEqual(camp_ring(alone), (((0,), (1,)), (0,)))


class Rule(unittest.TestCase):
    def papers(self, seed, many, most_places=4):
        """Yield drawn MACHINES, each with two papers for it."""
        rng = random.Random(seed)
        for own in drawn_machines(seed, many, most_places, more=3) + [TAME, DUO]:
            if surely_together(own):
                yield rng, own, our_paper(own)
                yield rng, own, lifted(rng, our_paper(own))
                yield rng, own, pruned(rng, own, lifted(rng, our_paper(own)))

    def test_against_the_words(self):
        taken = set()
        for rng, own, paper in self.papers(13, 120):
            self.assertIs(is_our_paper(own, paper), True)
            row = followed(rng, own, paper, 25)
            k = 0
            for at in range(len(row)):
                self.check_arrow(own, paper, row[:at])
                arrows = own[1][k][1]
                for wrong in (len(arrows), -1, (row[at] + 1) % len(arrows)):
                    self.check_arrow(own, paper, row[:at] + (wrong,))
                    self.check_arrow(own, paper, row[:at] + (wrong,) + row[at + 1:])
                taken.add(row[at])
                k = arrows[row[at]][1]
        self.assertGreaterEqual(len(taken), 4)

    def check_arrow(self, own, paper, row):
        expected = plain.rule_walk(own, paper, row)
        if expected == "unfit":
            with self.assertRaises(Unfit):
                rule_arrow(own, paper, row)
        else:
            self.assertEqual(rule_arrow(own, paper, row), expected)

    def test_who_is_hunted_stays_so_at_the_beginning(self):
        spun = (((((2,), (0,), (1,)), None), (((0, 2), (1,), (0,)), None)), (("ours", ((0, 0), (1, 0))),))
        paper = our_paper(spun)
        # {0} against {1} is hunted and led to {1} against {2}; {0} against {1} is in view then, too.
        self.assertEqual(rule_arrow(spun, paper, ()), 0)
        self.assertEqual(rule_arrow(spun, paper, (0,)), 1)
        self.assertEqual(plain.rule_walk(spun, paper, (0,)), 1)

    def test_what_the_paper_does_not_tell_is_not_good(self):
        turn, swap = (((1,), (2,), (0,)), None), (((1,), (0,), (2,)), None)
        own = ((turn, swap, (((0,),) * 3, None)), (("ours", ((0, 1), (1, 2))), ("any", ((2, 0),)), ("any", ((2, 0),))))
        full = our_paper(own)
        self.assertEqual(rule_arrow(own, full, ()), 0)
        less = tuple(triple for triple in full if triple[0] != 1)
        self.assertIs(is_our_paper(own, less), True)
        self.assertEqual(rule_arrow(own, less, ()), 1)

    def test_rows_that_lead_to_no_choice_of_ours(self):
        paper = our_paper(DUO)
        for row in ((), (0, 0), (1, 0), (1, 1, 1), (2,), (0, 2, 0), (-1,), (0, -1, 0)):
            with self.assertRaises(Unfit):
                rule_arrow(DUO, paper, row)
        self.assertEqual(rule_arrow(DUO, paper, (0,)), 0)

    def test_one_arrow_of_ours_is_no_choice(self):
        own = ((FIRST, SECOND), (("ours", ((0, 1),)), ("ours", ((0, 0), (1, 0)))))
        paper = our_paper(own)
        with self.assertRaises(Unfit):
            rule_arrow(own, paper, ())
        self.assertEqual(rule_arrow(own, paper, (0,)), plain.rule_walk(own, paper, (0,)))

    def test_each_dies_within_the_span(self):
        for rng, own, paper in self.papers(14, 60, 3):
            span = rule_span(own, paper)
            row = followed(rng, own, paper, min(3 * span, 150))
            # All are in view at the beginning of the run at least.
            for camps in all_camps(places_of(own)):
                if span <= len(row):
                    self.assertIs(led_along(own, 0, row[:span], camps), None)

    def test_span_by_its_words(self):
        for _, own, paper in self.papers(15, 60):
            camps = all_camps(places_of(own))
            if not camps:
                self.assertEqual(rule_span(own, paper), 0)
            else:
                greatest = max(rank for k, _, rank in paper if k == 0)
                longest = max(map(len, plain.rounds(own)))
                self.assertEqual(rule_span(own, paper), len(camps) * (greatest + longest))
                self.assertEqual(longest, round_lengths(own)[1])

    def test_span_takes_ranks_of_the_beginning_alone(self):
        paper = our_paper(DUO)
        self.assertEqual(rule_span(DUO, paper), 24)
        higher = tuple((k, camps, rank if k == 0 else rank + 0) for k, camps, rank in paper)
        self.assertEqual(rule_span(DUO, higher), 24)
        tame = tuple((k, camps, 5 * rank) for k, camps, rank in our_paper(TAME))
        self.assertEqual(rule_span(TAME, tame), 6 * (10 + 1))

    def test_long_rows(self):
        rng = random.Random(16)
        paper = our_paper(DUO)
        row = followed(rng, DUO, paper, 401)
        if plain.way(DUO, 0, row)[1][-1] != 1:
            row = row[:-1]
        self.assertEqual(rule_arrow(DUO, paper, row), plain.rule_walk(DUO, paper, row))


class Calls(unittest.TestCase):
    def test_each_function_by_point_2(self):
        for own in (WILD, TAME, DUO, TURN, TOLD, LONE, LONE_OURS):
            for function in (surely_together, our_paper, their_paper, camp_ring):
                check_call(self, function, {"machine": own})
            paper, against = our_paper(own), their_paper(own)
            for thing in (paper, as_lists(paper), against, as_lists(against), (SPLIT, (0, 1)), (SPLIT, [0, 1])):
                for function in (is_our_paper, is_their_paper, is_camp_ring):
                    check_call(self, function, {"machine": own, "thing": thing})
            if paper is not None:
                check_call(self, rule_span, {"machine": own, "paper": paper})
                for row in ((), (0,), (1,), (1, 0), (1, 0, 1)):
                    check_call(self, rule_arrow, {"machine": own, "paper": paper, "row": row})

    def test_lists_are_no_papers(self):
        self.assertIs(is_our_paper(DUO, as_lists(our_paper(DUO))), False)
        self.assertIs(is_their_paper(WILD, as_lists(their_paper(WILD))), False)
        self.assertIs(is_camp_ring(WILD, as_lists(camp_ring(WILD))), False)


if __name__ == "__main__":
    unittest.main()
