"""The guarantees of section 1 over the whole program: what its parts say of one MACHINE agrees."""

import random
import unittest
from fractions import Fraction

from nearercamps import camps, errors, games, late, machines, owners, papers, pieces, planlines, plans, runs, say
from nearercamps import shares, spare, steps, stubborn, together, told, windows, within
from nearercamps.board import Board
from nearercamps.desk import desk
from tests import plain_claims
from tests import plain_machines as plain
from tests import plain_plans
from tests.drawn import NAMED, drawn_machines, drawn_row


def machines_of_plans(seed, many):
    """Return MACHINES of drawn PLANS, read from their texts."""
    rng = random.Random(seed)
    found = []
    while len(found) < many:
        own = plain_plans.draw_plan(rng, 4, 2)
        try:
            found.append(plans.machine_of(planlines.plan_by(planlines.plan_text(own))))
        except (errors.TooMuch, errors.CanNot):
            continue
        if len(found[-1][1]) > 12:
            found.pop()
    return found


SOME = list(NAMED) + machines_of_plans(1, 50) + drawn_machines(1401, 30, 4, 4)


def places(own):
    return len(own[0][0][0])


def free(own):
    return owners.handed_over(own, ())


def worth(row):
    return [Fraction(*pair) for pair in row]


class ByRules(unittest.TestCase):
    def test_a_rule_of_ours_or_a_pair_of_camps_that_is_kept(self):
        kinds = set()
        for own in SOME:
            right = together.surely_together(own)
            every = camps.all_camps(places(own))
            self.assertIs(right, plain.together(own))
            self.assertIs(right, all(games.can_kill(own, 0, some) for some in every))
            self.assertIs(right, together.our_paper(own) is not None)
            self.assertIs(right, together.their_paper(own) is None)
            self.assertIs(right, papers.is_so(own, ("together",)))
            self.assertIs(right, Board(own).together())
            self.assertIs(right, owners.is_enough(own, machines.choices(own, "ours")))
            thing = papers.paper(own, ("together",))
            self.assertIs(together.is_our_paper(own, thing), right)
            self.assertIs(together.is_their_paper(own, thing), not right)
            kinds.add(right)
            if right:
                self.check_rule(own, thing)
            else:
                self.check_kept(own, thing)
        self.assertEqual(len(kinds), 2)

    def check_rule(self, own, thing):
        """Hold that all CAMPS die within rule_span moves of a drawn run by the rule."""
        rng = random.Random(2)
        row, span = (), together.rule_span(own, thing)
        if span > 80:
            return
        while len(row) < span:
            owner, arrows = own[1][machines.row_end(own, 0, row)]
            if owner == "ours" and len(arrows) > 1:
                row += (together.rule_arrow(own, thing, row),)
            else:
                row += (rng.randrange(len(arrows)),)
        for some in camps.all_camps(places(own)):
            self.assertIsNone(camps.led_along(own, 0, row, some))

    def check_kept(self, own, thing):
        """Hold that against any moves of ours anybody can keep some at 0 and some at 1."""
        rng = random.Random(3)
        kept, table = thing
        begin, k, row = runs.camp_state(places(own), kept), 0, ()
        for _ in range(40):
            owner, arrows = own[1][k]
            ends = [(end, camps.led(own[0][step][0], kept)) for step, end in arrows]
            good = [part for part, end in enumerate(ends) if end in table]
            if owner == "ours":
                self.assertEqual(len(good), len(arrows))
            part = rng.choice(good)
            row, (k, kept) = row + (part,), ends[part]
        held = runs.run_even(own, row, begin)[-1]
        self.assertEqual({held[p] for p in kept[0]} | {held[p] for p in kept[1]}, {(0, 1), (1, 1)})
        self.assertEqual(runs.spreads(own, row, begin)[-1], (1, 1))

    def test_machines_that_go_alike_are_told_the_same(self):
        for own in SOME:
            others = [machines.merged(own), plain.spread_out(random.Random(4), own)]
            try:
                others.append(plans.machine_of(plans.plan_of(own)))
            except errors.TooMuch:
                pass
            for other in others:
                self.assertIs(machines.go_alike(own, other), True)
                self.assertIs(together.surely_together(other), together.surely_together(own))
                self.assertEqual(windows.window(free(other)), windows.window(free(own)))
                self.assertEqual(shares.kept_sums(other), shares.kept_sums(own))
                self.assertEqual(say.silent_places(other), say.silent_places(own))
                self.assertEqual(say.least_voices(other), say.least_voices(own))
                self.assertEqual(stubborn.closed_in(other), stubborn.closed_in(own))
                self.assertEqual(stubborn.least_posts(other), stubborn.least_posts(own))
                self.assertEqual(games.kill_rank(other, 0, ((0,), (1,))) if places(own) > 1 else 0,
                                 games.kill_rank(own, 0, ((0,), (1,))) if places(own) > 1 else 0)


class InEveryRun(unittest.TestCase):
    def test_a_finite_web_without_rings_and_its_window(self):
        rng = random.Random(5)
        kinds = set()
        for own in SOME:
            bare = free(own)
            right = together.surely_together(bare)
            self.assertIs(right, Board(own).always())
            self.assertIs(right, together.camp_ring(bare) is None)
            self.assertIs(right, windows.window(bare) is not None)
            self.assertIs(right, papers.is_so(own, ("always",)))
            self.assertIs(within.harms(own, (0,), 60) and right, False)
            self.assertIs(right, not late.late_harms(own, (0,) * places(own)))
            kinds.add(right)
            if right:
                self.check_window(rng, bare)
                self.assertEqual(told_lots(bare), [tuple(range(places(own)))])
                self.assertEqual(desk_life(own), str(windows.longest_life(bare)))
            else:
                some, row = together.camp_ring(bare)
                self.assertEqual(runs.spreads(bare, row * 3, runs.camp_state(places(own), some))[-1], (1, 1))
        self.assertEqual(len(kinds), 2)

    def check_window(self, rng, own):
        many, d = windows.window(own), (1, 6)
        self.assertIs(papers.is_so(own, ("window", many)) if many <= 200 else True, True)
        for _ in range(5):
            row = drawn_row(rng, own, 0, many)
            bare = [runs.evened(step) for step in runs.row_steps(own, row)]
            least = [Fraction(*steps.least_share(step)) for step in bare] + [Fraction(*d)]
            start = tuple((rng.randint(-9, 9), 1) for _ in range(places(own)))
            spread = [Fraction(*number) for number in runs.spreads(own, row, start)]
            left = 1 - min(least) ** many
            self.assertLessEqual(spread[-1], left * spread[0] if places(own) > 1 else 0)
        slow = windows.slow_row(own)
        if slow is not None:
            self.assertEqual(len(slow[1]), many - 1)
            self.assertEqual(runs.spreads(own, slow[1], runs.camp_state(places(own), slow[0]))[-1], (1, 1))

    def test_late_where_each_reads_itself(self):
        met = set()
        for own in SOME:
            bare = tuple((tuple(tuple(sorted(set(lot) | {p})) for p, lot in enumerate(looks)), None)
                         for looks, _ in own[0])
            wide = (bare, own[1])
            self.assertIs(late.reads_itself(wide), True)
            try:
                harms = late.late_harms(wide, (1,) + (0,) * (places(own) - 1))
            except errors.TooMuch:
                continue
            self.assertIs(harms, papers.is_so(wide, ("always",)) is False)
            met.add(harms)
        self.assertEqual(len(met), 2)


def told_lots(own):
    """Return the LOTS that come together by told times, told shares being told no more."""
    return told.meeting_lots((tuple((looks, None) for looks, _ in own[0]), own[1]))


def desk_life(own):
    """Return what the desk tells of the life of a MACHINE, written down as a PLAN."""
    try:
        text = planlines.plan_text(plans.plan_of(own))
    except errors.TooMuch:
        return str(windows.longest_life(free(own)))
    return desk("plan\n " + text.replace("\n", "\n ") + "\nlife")[1]


class WhoMatters(unittest.TestCase):
    def test_needed_choices_and_the_judge(self):
        for own in SOME:
            every = plain.every_choice(own)
            if len(every) > 6:
                continue
            needed = owners.needed_sets(own)
            for some in plain.sets_of(every):
                enough = owners.is_enough(own, some)
                self.assertIs(papers.is_so(own, ("enough", some)), enough)
                self.assertIs(enough, any(set(one) <= set(some) for one in needed))
                self.assertIs(papers.is_so(own, ("needed", some)), some in needed)
                self.assertIs(together.surely_together(owners.handed_over(own, some)), enough)

    def test_looks_and_arrows_that_can_be_spared(self):
        for own in SOME:
            if together.surely_together(own):
                left = spare.without_looks(own, spare.spare_looks(own))
                self.assertIs(together.surely_together(left), True)
                self.assertEqual(spare.spare_looks(left), ())
                wide = spare.with_looks(own, spare.further_looks(own))
                self.assertIs(papers.carries_over(own, ("together",), wide), True)
                self.assertIs(together.surely_together(wide), True)
            else:
                for look in spare.helping_looks(own):
                    self.assertIs(together.surely_together(spare.with_looks(own, (look,))), True)

    def test_who_holds_all_others(self):
        for own in SOME:
            for lot in stubborn.closed_in(own):
                self.assertIs(papers.is_so(own, ("holds", lot)), stubborn.can_hold(own, lot))
                self.assertIs(stubborn.holds(own, lot), stubborn.can_hold(free(own), lot))
                self.assertIs(stubborn.holds(own, lot), papers.is_so(free(own), ("holds", lot)))
                if together.surely_together(free(own)):
                    # Numbers that come together come to one between those of each closed LOT.
                    self.assertIs(stubborn.holds(own, lot), True)
                    self.assertIs(lot == tuple(range(places(own))) or
                                  not say.ever_heard(own, tuple(p for p in range(places(own)) if p not in lot)), True)

    def test_who_is_heard_and_the_agreed_sum(self):
        kinds = set()
        for own in SOME:
            for p in range(places(own)):
                self.assertIs(papers.is_so(own, ("heard", (p,))), say.can_be_heard(own, (p,)))
                self.assertIs(p in say.silent_places(own), not say.ever_heard(own, (p,)))
            if not together.surely_together(free(own)):
                self.assertIs(papers.is_claim(own, ("agreed",)), False)
                continue
            agreed = papers.is_so(own, ("agreed",))
            kinds.add(agreed)
            self.assertIs(agreed, shares.kept_sums(own) != ())
            if agreed:
                row = worth(shares.agreed_sum(own))
                heard = [say.ever_heard(own, (p,)) for p in range(places(own))]
                self.assertEqual([weight > 0 for weight in row], heard)
                self.assertEqual([say.surely_heard(own, (p,)) for p in range(places(own))], heard)
            else:
                self.assertIs(shares.is_two_ends(own, papers.paper(own, ("agreed",))), True)
        self.assertEqual(len(kinds), 2)

    def test_who_comes_together_by_told_times(self):
        for own in SOME:
            lots = told_lots(own)
            self.assertEqual(sorted(p for lot in lots for p in lot), list(range(places(own))))
            # Some stay apart by told times exactly if not every run comes together.
            self.assertIs(len(lots) == 1, together.surely_together(free(own)))

    def test_spans_that_harm(self):
        met = set()
        for own in SOME:
            if len(own[1]) > 6 or places(own) > 3:
                continue
            least = within.least_harming(own, (0,))
            met.add(least)
            for k in (1, 2, 3):
                self.assertIs(within.harms(own, (0,), k), least is not None and least <= k)
            if together.surely_together(free(own)):
                self.assertIsNone(least)
        self.assertLessEqual({None, 1, 2}, met)


class Exchanged(unittest.TestCase):
    def test_a_step_called_as_a_piece_changes_nothing(self):
        rng = random.Random(6)
        for own in SOME:
            k = rng.randrange(len(own[1]))
            part = rng.randrange(len(own[1][k][1]))
            step, _ = own[1][k][1][part]
            made = pieces.called(own, k, part, pieces.row_piece((own[0][step],)))
            self.assertIs(together.surely_together(made), together.surely_together(own))
            self.assertIs(together.surely_together(free(made)), together.surely_together(free(own)))

    def test_plain_looks_may_stand_for_a_piece(self):
        rng = random.Random(7)
        for own in SOME:
            looks = tuple(sorted({tuple(looks) for looks, _ in own[0]}))
            piece = pieces.joined_piece(pieces.choice_piece(looks), pieces.choice_piece(looks))
            less = pieces.choice_piece(pieces.plain_looks(piece))
            self.assertIs(pieces.pieces_alike(piece, less), True)
            k = rng.randrange(len(own[1]))
            both = [together.surely_together(pieces.called(own, k, 0, one)) for one in (piece, less)]
            self.assertEqual(both[0], both[1])

    def test_tables_tell_what_goes_round_alone(self):
        for own in SOME:
            looks = own[0][0][0]
            piece = pieces.choice_piece((looks,))
            lasts = camps.lasting(looks) != ()
            self.assertIs(together.surely_together(pieces.around(piece, looks)), not lasts)


class Judged(unittest.TestCase):
    def test_one_judge_for_all(self):
        for own in SOME[:60]:
            if len(plain.every_choice(own)) > 4:
                continue
            claims = plain_claims.every_claim(own)
            things = [papers.paper(own, claim) for claim in claims]
            words = papers.verdicts(own, claims, things)
            self.assertEqual(words, ["for" if papers.is_so(own, claim) else "against" for claim in claims])
            wrong = [k for k, word in enumerate(words) if word == "against"]
            self.assertEqual(papers.first_false(own, claims), wrong[0] if wrong else None)

    def test_the_desk_tells_what_the_board_tells(self):
        many = 0
        for own in SOME:
            try:
                text = planlines.plan_text(plans.plan_of(own))
            except errors.TooMuch:
                continue
            replies = desk("plan\n " + text.replace("\n", "\n ") + "\ntogether\nalways\nlife")
            life = windows.longest_life(free(own))
            yes = {True: "yes", False: "no"}
            self.assertEqual(replies, ["done", yes[together.surely_together(own)],
                                       yes[together.surely_together(free(own))],
                                       "for ever" if life is None else str(life)])
            many += 1
        self.assertGreater(many, 40)


if __name__ == "__main__":
    unittest.main()
