"""Point 22: one judge for all papers."""

import random
import unittest

from nearercamps import papers
from nearercamps.errors import Unfit
from tests import plain_claims as told
from tests import plain_machines as plain
from tests.calls import check_call
from tests.drawn import DUO, LONE, LONE_OURS, TAME, TOLD, TURN, TWO, WILD, drawn_machines
from tests.support import check_kind, junk

HEAR = (((0,), (0, 2), (2,)), None)
STILL = (((0,), (1,), (2,)), None)
POST = ((HEAR, STILL), (("ours", ((0, 0), (1, 0))),))
EVEN = (((((0, 1), (0, 1)), (((3, 4), (1, 4)), ((1, 2), (1, 2)))),), (("any", ((0, 0),)),))
LOOSE = (((((0, 1), (0, 1)), None),), (("any", ((0, 0),)),))
ONES = (((0,), (0,), (0,)), None)
SLOW = (WILD[0], (("any", ((0, 1),)), ("any", ((0, 2),)), ("any", ((1, 0),))))
FAST = ((ONES, HEAR[:1] + (None,)), (("any", ((0, 1),)), ("ours", ((0, 0), (1, 0)))))
NAMED = (WILD, TAME, DUO, TURN, TWO, LONE, LONE_OURS, TOLD, POST, EVEN, LOOSE, FAST, SLOW)
SOME = NAMED + tuple(drawn_machines(1201, 40, 3, 4)) + tuple(drawn_machines(1202, 12, 4, 3))
EVERY = {own: told.every_claim(own) for own in SOME}


class Claims(unittest.TestCase):
    def test_right_ones(self):
        for own in SOME:
            for claim in EVERY[own]:
                self.assertIs(told.claim(own, claim), True)
                self.assertIs(papers.is_claim(own, claim), True)

    def test_things_of_every_kind(self):
        for own, claim in ((WILD, ("together",)), (WILD, ("always",)), (TAME, ("window", 7)), (TWO, ("enough", (0, 1))),
                           (DUO, ("needed", (0,))), (POST, ("holds", (0, 2))), (WILD, ("heard", (1, 2))),
                           (EVEN, ("agreed",)), (DUO, ("enough", ()))):
            check_kind(self, lambda one: papers.is_claim(own, one), lambda one: told.claim(own, one), claim)

    def test_the_edges(self):
        for claim, right in ((("window", 1), True), (("window", 200), True), (("window", 0), False),
                             (("window", 201), False), (("window", True), False), (("agreed",), False),
                             (("enough", (0,)), True), (("enough", (1,)), False), (("enough", (0, 0)), False),
                             (("enough", (-1,)), False), (("enough", [0]), False), (("needed", ()), True),
                             (("holds", (0,)), False), (("holds", (0, 1, 2)), True), (("heard", ()), False),
                             (("heard", (0, 3)), False), (("always", ()), False), (("together", 1), False),
                             (("window",), False),
                             (("nothing",), False), ("always", False), ((), False)):
            self.assertIs(papers.is_claim(WILD, claim), right, claim)
        self.assertIs(papers.is_claim(TURN, ("enough", (0,))), False)
        self.assertIs(papers.is_claim(EVEN, ("agreed",)), True)
        # Of a STEP on no arrow nothing hangs: (0,) is closed all the same.
        self.assertIs(papers.is_claim(((HEAR, (((1,), (1,), (1,)), None)), (("any", ((0, 0),)),)), ("holds", (0,))),
                      True)

    def test_so_or_not(self):
        met = set()
        for own in SOME:
            for claim in EVERY[own]:
                right = told.so(own, claim)
                self.assertIs(papers.is_so(own, claim), right, (own, claim))
                met.add((claim[0], right))
        words = ("together", "always", "window", "enough", "needed", "holds", "heard", "agreed")
        self.assertEqual(met, {(word, right) for word in words for right in (True, False)})

    def test_windows_at_the_very_number(self):
        found = set()
        for own in SOME:
            if told.always(own):
                many = told.window(plain.handed(own, ()))
                self.assertIs(papers.is_so(own, ("window", many)), True)
                if many > 1:
                    self.assertIs(papers.is_so(own, ("window", many - 1)), False)
                found.add(many)
        self.assertLessEqual({1, 2, 3}, found)


class Papers(unittest.TestCase):
    def check(self, own, claim, thing):
        verdict = (told.paper_for(own, claim, thing), told.paper_against(own, claim, thing))
        self.assertIs(papers.is_paper_for(own, claim, thing), verdict[0], (own, claim, thing))
        self.assertIs(papers.is_paper_against(own, claim, thing), verdict[1], (own, claim, thing))
        return verdict

    def test_what_is_so_has_papers_for_it_alone_else_against_it_alone(self):
        for own in SOME:
            for claim in EVERY[own]:
                thing = papers.paper(own, claim)
                right = told.so(own, claim)
                self.assertEqual(self.check(own, claim, thing), (right, not right))

    def test_no_paper_of_any_claim_speaks_against_the_truth(self):
        met = set()
        for own in SOME[:40]:
            things = {papers.paper(own, claim) for claim in EVERY[own]}
            for claim in EVERY[own]:
                right = told.so(own, claim)
                for thing in things:
                    verdict = self.check(own, claim, thing)
                    self.assertNotEqual(verdict, (not right, right))
                    self.assertLess(sum(verdict), 2)
                    met.add((claim[0], verdict))
        for word in ("together", "always", "window", "enough", "needed", "holds", "heard", "agreed"):
            for verdict in ((True, False), (False, True), (False, False)):
                self.assertIn((word, verdict), met)

    def test_things_of_every_kind(self):
        for own, claim in ((TAME, ("together",)), (WILD, ("together",)), (WILD, ("always",)), (LOOSE, ("window", 1)),
                           (TAME, ("window", 3)), (WILD, ("enough", (0,))), (WILD, ("enough", ())),
                           (WILD, ("needed", (0,))),
                           (WILD, ("needed", ())), (POST, ("holds", (0, 2))), (POST, ("heard", (1,))),
                           (EVEN, ("agreed",)), (LOOSE, ("agreed",)), (TAME, ("heard", (0,)))):
            thing = papers.paper(own, claim)
            if told.so(own, claim):
                check_kind(self, lambda one: papers.is_paper_for(own, claim, one),
                           lambda one: told.paper_for(own, claim, one), thing)
            else:
                check_kind(self, lambda one: papers.is_paper_against(own, claim, one),
                           lambda one: told.paper_against(own, claim, one), thing)

    def test_both_kinds_of_papers_against_needed_ones(self):
        # TWO: each choice alone is enough, both are not needed; none is not enough.
        several = papers.paper(TWO, ("needed", (0, 1)))
        self.assertIn(several[0], (0, 1))
        self.assertIs(papers.is_paper_against(TWO, ("needed", (0, 1)), several), True)
        for stand in (0, 1):
            thing = (stand, papers.paper(TWO, ("enough", (1 - stand,))))
            self.assertIs(papers.is_paper_against(TWO, ("needed", (0, 1)), thing), True)
            self.assertIs(papers.is_paper_against(TWO, ("needed", (0, 1)), (1 - stand,) + thing[1:]), False)
            self.assertIs(papers.is_paper_against(TWO, ("needed", (stand,)), thing), False)
        # True is no stand.
        self.assertIs(papers.is_paper_against(TWO, ("needed", (0, 1)), (True, thing[1])), False)
        theirs = papers.paper(TWO, ("enough", ()))
        self.assertEqual(papers.paper(TWO, ("needed", ())), theirs)
        self.assertIs(papers.is_paper_against(TWO, ("needed", ()), theirs), True)
        self.assertIs(papers.is_paper_against(TWO, ("needed", (0, 1)), theirs), False)

    def test_windows_of_rings_and_of_long_lives(self):
        for many in (1, 2, 3, 50, 200):
            thing = papers.paper(TWO, ("window", many))
            self.assertEqual(len(thing[1]), many)
            self.assertIs(papers.is_paper_against(TWO, ("window", many), thing), True)
            self.assertIs(papers.is_paper_against(TWO, ("window", many + 1 if many < 200 else 1), thing), False)
        self.assertEqual(told.window(SLOW), 2)
        slow, fit = papers.paper(SLOW, ("window", 1)), papers.paper(SLOW, ("window", 2))
        self.assertEqual(len(slow[1]), 1)
        self.assertEqual(fit, papers.paper(SLOW, ("always",)))
        claims = (("window", 1), ("window", 2), ("window", 1), ("window", 200))
        self.assertEqual(papers.verdicts(SLOW, claims, (slow, fit, fit, fit)), ["against", "for", "none", "for"])
        # Ranks away from the beginning may be above many.
        fit = papers.paper(FAST, ("window", 1))
        self.assertEqual(max(rank for k, _, rank in fit if k == 0), 1)
        self.assertGreater(max(rank for k, _, rank in fit if k == 1), 1)

    def test_agreed_rows_with_one_in_all(self):
        twice = (((4, 3), (2, 3)),)
        once = (((2, 3), (1, 3)),)
        self.assertIs(papers.is_paper_for(EVEN, ("agreed",), once), True)
        self.assertIs(papers.is_paper_for(EVEN, ("agreed",), twice), False)
        self.assertIs(papers.is_paper_for(EVEN, ("agreed",), ()), False)


class Verdicts(unittest.TestCase):
    def test_the_words(self):
        rng = random.Random(1)
        for own in SOME:
            claims = [rng.choice(EVERY[own]) for _ in range(12)]
            things = [papers.paper(own, rng.choice(claims)) for _ in claims[:8]] + rng.sample(junk(), 4)
            right = []
            for claim, thing in zip(claims, things):
                speaks = told.paper_for(own, claim, thing), told.paper_against(own, claim, thing)
                right.append("for" if speaks[0] else "against" if speaks[1] else "none")
            self.assertEqual(papers.verdicts(own, tuple(claims), tuple(things)), right)
            self.assertEqual(papers.verdicts(own, claims, things), right)

    def test_none_and_not_equally_many(self):
        self.assertEqual(papers.verdicts(WILD, (), ()), [])
        self.assertRaises(Unfit, papers.verdicts, WILD, (), (1,))
        self.assertRaises(Unfit, papers.verdicts, WILD, (("always",),), ())
        self.assertRaises(Unfit, papers.verdicts, WILD, (("agreed",),), (1,))

    def test_first_false(self):
        rng = random.Random(2)
        found = set()
        for own in SOME:
            for many in (0, 1, 2, 5):
                claims = tuple(rng.choice(EVERY[own]) for _ in range(many))
                wrong = [k for k, claim in enumerate(claims) if not told.so(own, claim)]
                right = wrong[0] if wrong else None
                self.assertEqual(papers.first_false(own, claims), right)
                found.add(right)
        self.assertLessEqual({None, 0, 1, 2}, found)
        # What is no CLAIM is refused, whatever comes ahead of it.
        self.assertRaises(Unfit, papers.first_false, WILD, (("always",), ("agreed",)))


class Comes(unittest.TestCase):
    def test_against_the_rules_one_after_the_other(self):
        rng = random.Random(3)
        met = set()
        for own in SOME:
            every = EVERY[own]
            for _ in range(12):
                claims = tuple(rng.choice(every) for _ in range(rng.choice([0, 1, 1, 2, 3])))
                found = told.comes(own, claims, (1, 2, 3, 4, 5, 10, 200))
                for claim in every:
                    right = claim in found
                    self.assertIs(papers.comes_of(own, claim, claims), right, (own, claim, claims))
                    met.add((claim[0], right))
        self.assertEqual(len(met), 16)

    def test_never_from_what_is_so_to_what_is_not(self):
        for own in SOME:
            so = tuple(claim for claim in EVERY[own] if told.so(own, claim))
            for claim in EVERY[own]:
                self.assertIs(papers.comes_of(own, claim, so), claim in so)

    def test_ways_of_several_rules(self):
        self.assertIs(papers.comes_of(DUO, ("together",), (("window", 9),)), True)
        self.assertIs(papers.comes_of(DUO, ("together",), (("needed", (1,)),)), True)
        self.assertIs(papers.comes_of(DUO, ("together",), (("needed", (0,)),)), False)
        self.assertIs(papers.comes_of(DUO, ("enough", (0, 1)), (("together",),)), True)
        self.assertIs(papers.comes_of(DUO, ("needed", (1,)), (("enough", (1,)), ("together",))), False)
        self.assertIs(papers.comes_of(DUO, ("window", 9), (("always",),)), False)
        self.assertIs(papers.comes_of(DUO, ("always",), ()), False)
        self.assertIs(papers.comes_of(WILD, ("always",), (("together",),)), True)
        self.assertIs(papers.comes_of(EVEN, ("always",), (("agreed",),)), False)
        self.assertIs(papers.comes_of(EVEN, ("agreed",), (("agreed",),)), True)


class Carries(unittest.TestCase):
    def others(self, rng, own):
        """Return MACHINES that are like own but for something."""
        n = told.places(own)
        wide = tuple((tuple(tuple(sorted(set(lot) | {rng.randrange(n)})) for lot in looks), None)
                     for looks, _ in own[0])
        narrow = tuple((tuple(lot[:1] for lot in looks), None) for looks, _ in own[0])
        owners = tuple(("any" if owner == "ours" else "ours", arrows) for owner, arrows in own[1])
        more = own[0] + own[0][:1]
        bare = tuple((looks, None) for looks, _ in own[0])
        grown = tuple((tuple(tuple(lot) for lot in looks) + ((n,),), None) for looks, _ in own[0])
        turned = tuple((owner, arrows[::-1]) for owner, arrows in own[1])
        return [(wide, own[1]), (narrow, own[1]), (own[0], owners), (more, own[1]), (bare, own[1]), (grown, own[1]),
                (own[0], turned), own]

    def test_against_the_words(self):
        rng = random.Random(4)
        met = set()
        for own in SOME:
            for other in self.others(rng, own):
                like = told.places(own) == told.places(other) and len(own[0]) == len(other[0]) and own[1] == other[1]
                like = like and all(set(a) <= set(b) for one, two in zip(own[0], other[0])
                                    for a, b in zip(one[0], two[0]))
                for claim in EVERY[own]:
                    right = like and claim[0] in ("together", "always", "window", "enough", "heard")
                    self.assertIs(papers.carries_over(own, claim, other), right)
                    met.add((claim[0], right))
                    if right and told.so(own, claim):
                        self.assertIs(told.so(other, claim), True)
        self.assertEqual(len(met), 13)


class Refused(unittest.TestCase):
    def test_what_is_no_claim(self):
        for own in (WILD, TURN, LONE):
            for claim in (("agreed",) if own == WILD else ("agree",), ("window", 0), ("enough", (7,)), ("heard", (9,)),
                          ("holds", ()), (), (None,), ("needed", (1, 0))):
                for call in (lambda: papers.is_so(own, claim), lambda: papers.paper(own, claim),
                             lambda: papers.is_paper_for(own, claim, None), lambda: papers.is_paper_against(own, claim,
                                                                                                            1),
                             lambda: papers.verdicts(own, (("always",), claim), (1,)),
                             lambda: papers.comes_of(own, claim, (claim,)),
                             lambda: papers.comes_of(own, ("always",), (("always",), claim)),
                             lambda: papers.carries_over(own, claim, own), lambda: papers.first_false(own, (claim,))):
                    self.assertRaises(Unfit, call)

    def test_every_row_of_arguments(self):
        for own in (WILD, TAME, TWO, POST, EVEN, LOOSE, LONE_OURS, TOLD):
            for claim in EVERY[own] + [("enough", (9,))]:
                check_call(self, papers.is_so, {"machine": own, "claim": claim})
                check_call(self, papers.paper, {"machine": own, "claim": claim})
                check_call(self, papers.is_claim, {"machine": own, "thing": claim})
                thing = None if claim == ("enough", (9,)) else papers.paper(own, claim)
                check_call(self, papers.is_paper_for, {"machine": own, "claim": claim, "thing": thing})
                check_call(self, papers.is_paper_against, {"machine": own, "claim": claim, "thing": thing})
                check_call(self, papers.carries_over, {"machine": own, "claim": claim, "other": own})
                check_call(self, papers.comes_of, {"machine": own, "claim": claim, "claims": tuple(EVERY[own][2:5])})
            check_call(self, papers.first_false, {"machine": own, "claims": tuple(EVERY[own])})
            check_call(self, papers.verdicts, {"machine": own, "claims": tuple(EVERY[own][:2]), "things": (1, None)})


if __name__ == "__main__":
    unittest.main()
