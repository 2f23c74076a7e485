"""Point 12: which choices must be ours."""

import random
import unittest

from nearercamps import owners
from nearercamps.errors import CanNot, NoPlace, TooMuch, Unfit
from nearercamps.together import is_our_paper, is_their_paper, surely_together
from tests import plain_machines as plain
from tests.calls import check_call
from tests.drawn import DUO, FIRST, LONE, LONE_OURS, NAMED, SECOND, SIX_TURN, TAME, TOLD, TURN, TWO, WILD
from tests.drawn import drawn_machines
from tests.support import check_kind

HOLD = (((0,), (1,), (2,)), None)
# One step swaps both places, the other one takes all to one number: both choices must be ours to take it.
BOTH = (((((1,), (0,)), None), (((1,), (1,)), None)), (("any", ((0, 1), (0, 0))), ("any", ((1, 0), (0, 0)))))
# Either the first choice must be ours, or both others.
EITHER = (BOTH[0], (("any", ((1, 0), (0, 2), (0, 1))), ("any", ((0, 2), (0, 0))), ("any", ((0, 0), (1, 0)))))
SOME = tuple(drawn_machines(201, 60, 3, 4)) + (BOTH, EITHER) + NAMED
SOME = SOME + tuple(drawn_machines(202, 30, 3, 4, owners=("any",), more=3))
STILL = ((HOLD, HOLD), (("any", ((0, 1), (1, 1))), ("ours", ((0, 0), (1, 0)))))


def row_of_choices(many, arrows):
    """Return a MACHINE that goes round by so many choices, each with so many arrows by unlike STEPS."""
    looks = [((0,), (0,), (1,)), ((1,), (2,), (2,)), ((0,), (2,), (1,))]
    steps = tuple((own, None) for own in looks)
    ends = [(k + 1) % many for k in range(many)]
    return steps, tuple(("any", tuple((step, end) for step in range(arrows))) for end in ends)


def needed(own):
    return plain.least_of(plain.sets_of(plain.every_choice(own)), lambda some: plain.together(plain.handed(own, some)))


def any_arrows(own):
    return [(k, at) for k, (owner, arrows) in enumerate(own[1]) if owner == "any" and len(arrows) > 1
            for at in range(len(arrows))]


def is_paper(own, stands, thing):
    if type(thing) is not tuple or len(thing) != 2 or type(thing[1]) is not tuple or len(thing[1]) != len(stands):
        return False
    if not plain.Game(plain.handed(own, stands)).is_our_paper(thing[0]):
        return False
    others = [plain.handed(own, [k for k in stands if k != stand]) for stand in stands]
    return all(plain.Game(other).is_their_paper(paper) for other, paper in zip(others, thing[1]))


class Handed(unittest.TestCase):
    def test_all_sets_of_choices_against_plain_counting(self):
        for own in SOME:
            for stands in plain.sets_of(plain.every_choice(own)):
                self.assertEqual(owners.handed_over(own, stands), plain.handed(own, stands))
                self.assertIs(owners.is_enough(own, stands), plain.together(plain.handed(own, stands)))

    def test_other_stands_have_the_owner_any(self):
        own = ((FIRST,), (("ours", ((0, 1),)), ("any", ((0, 0),))))
        self.assertEqual(owners.handed_over(own, ())[1], (("any", ((0, 1),)), ("any", ((0, 0),))))
        self.assertEqual(owners.handed_over(TAME, ())[1][0][0], "any")

    def test_the_first_that_is_no_choice_is_told(self):
        other = ((FIRST, SECOND), (("any", ((0, 1), (1, 1))), ("any", ((0, 0),))))
        functions = [owners.handed_over, owners.is_enough, owners.made_needed, owners.needed_paper,
                     lambda own, stands: owners.is_needed_paper(own, stands, None)]
        for own, stands, place in ((TURN, (0, 1), 0), (other, (0, 1), 1), (other, (1, 2), 1), (TWO, (-1, 2), -1),
                                   (TWO, (0, 1, 2, 3), 2), (LONE, (0,), 0), (TURN, (7,), 7)):
            for function in functions:
                with self.assertRaises(NoPlace) as caught:
                    function(own, stands)
                self.assertEqual(caught.exception.place, place)


class Needed(unittest.TestCase):
    def test_against_all_sets_of_choices(self):
        kinds = set()
        for own in SOME:
            right = needed(own)
            self.assertEqual(owners.needed_sets(own), right)
            self.assertEqual(owners.fewest_choices(own), min(map(len, right)) if right else None)
            kinds.add(len(right) if right != [()] else "none")
            for function, among in ((owners.always_needed, all), (owners.never_needed, lambda held: not any(held))):
                if right:
                    told = tuple(k for k in plain.every_choice(own) if among([k in some for some in right]))
                    self.assertEqual(function(own), told)
                else:
                    self.assertRaises(CanNot, function, own)
        self.assertLessEqual({"none", 0, 1, 2}, kinds)

    def test_more_than_enough_is_enough(self):
        for own in SOME:
            sets = plain.sets_of(plain.every_choice(own))
            enough = [some for some in sets if owners.is_enough(own, some)]
            for some in enough:
                self.assertTrue(all(more in enough for more in sets if set(some) <= set(more)))

    def test_made_needed_leaves_out_the_greatest_first(self):
        for own in SOME:
            for stands in plain.sets_of(plain.every_choice(own)):
                if not plain.together(plain.handed(own, stands)):
                    self.assertRaises(CanNot, owners.made_needed, own, stands)
                    continue
                left = list(stands)
                for stand in sorted(stands, reverse=True):
                    rest = [k for k in left if k != stand]
                    left = rest if plain.together(plain.handed(own, rest)) else left
                self.assertEqual(owners.made_needed(own, stands), tuple(left))
                self.assertIn(tuple(left), owners.needed_sets(own))

    def test_the_edges(self):
        self.assertEqual(owners.needed_sets(LONE), [()])
        self.assertEqual((owners.always_needed(LONE), owners.never_needed(LONE)), ((), ()))
        self.assertEqual(owners.needed_sets(LONE_OURS), [()])
        self.assertEqual((owners.fewest_choices(LONE_OURS), owners.never_needed(LONE_OURS)), (0, (0,)))
        self.assertEqual((owners.needed_sets(STILL), owners.fewest_choices(STILL)), ([], None))
        self.assertEqual((owners.needed_sets(EITHER), owners.fewest_choices(EITHER)), ([(0,), (1, 2)], 1))
        self.assertEqual(owners.needed_sets(WILD), [(0,)])
        self.assertEqual((owners.always_needed(WILD), owners.never_needed(WILD)), ((0,), ()))
        self.assertEqual(owners.needed_sets(SIX_TURN), needed(SIX_TURN))

    def test_ten_choices_and_one_more(self):
        functions = [owners.needed_sets, owners.fewest_choices, owners.always_needed, owners.never_needed]
        ten, eleven = row_of_choices(10, 2), row_of_choices(11, 2)
        self.assertEqual(owners.needed_sets(ten), needed(ten))
        self.assertEqual(owners.fewest_choices(ten), min(map(len, needed(ten))))
        still = ((HOLD, HOLD), eleven[1])
        for function in functions:
            self.assertRaises(TooMuch, function, eleven)
            self.assertRaises(TooMuch, function, still)
        ours = (eleven[0], tuple(("ours", arrows) for _, arrows in eleven[1]))
        self.assertRaises(TooMuch, owners.needed_sets, ours)
        self.assertTrue(owners.is_enough(eleven, tuple(range(11))))

    def test_every_row_of_arguments(self):
        for own in (TWO, WILD, TURN, TOLD, LONE, STILL, row_of_choices(11, 2)):
            for function in (owners.needed_sets, owners.fewest_choices, owners.always_needed, owners.never_needed):
                check_call(self, function, {"machine": own})
            for stands in ((), (0,), (0, 1)):
                for function in (owners.handed_over, owners.is_enough, owners.made_needed, owners.needed_paper):
                    check_call(self, function, {"machine": own, "stands": stands})


class Papers(unittest.TestCase):
    def test_there_is_a_paper_exactly_for_needed_ones(self):
        rng = random.Random(5)
        for own in SOME:
            right = needed(own)
            for stands in plain.sets_of(plain.every_choice(own)):
                if stands not in right:
                    self.assertRaises(CanNot, owners.needed_paper, own, stands)
                    continue
                told = owners.needed_paper(own, stands)
                self.assertIs(owners.is_needed_paper(own, stands, told), True)
                self.assertIs(is_paper(own, stands, told), True)
                self.assertTrue(is_our_paper(owners.handed_over(own, stands), told[0]))
                for stand, paper in zip(stands, told[1]):
                    rest = tuple(k for k in stands if k != stand)
                    self.assertTrue(is_their_paper(owners.handed_over(own, rest), paper))
                other = rng.choice(plain.sets_of(plain.every_choice(own)))
                self.assertIs(owners.is_needed_paper(own, other, told), is_paper(own, other, told))

    def test_things_of_every_kind(self):
        for own, stands in ((WILD, (0,)), (LONE, ()), (LONE_OURS, ())):
            told = owners.needed_paper(own, stands)
            check_kind(self, lambda thing: owners.is_needed_paper(own, stands, thing),
                       lambda thing: is_paper(own, stands, thing), told)

    def test_two_that_are_needed(self):
        own, stands = BOTH, (0, 1)
        self.assertEqual(owners.needed_sets(own), [stands])
        paper, (one, other) = owners.needed_paper(own, stands)
        self.assertIs(owners.is_needed_paper(own, stands, (paper, (one, other))), True)
        for flawed in ((paper, (other, one)), (paper, (one,)), (paper, (one, other, one)), (paper, (one, one)),
                       (paper[1:], (one, other)), [paper, (one, other)], (paper, [one, other]), (paper, ()),
                       (list(paper), (one, other)), (paper, (one, other), ()), None, paper):
            self.assertIs(owners.is_needed_paper(own, stands, flawed), is_paper(own, stands, flawed))
        self.assertIs(owners.is_needed_paper(own, stands, (paper, (one, ()))), False)
        self.assertIs(owners.is_needed_paper(own, list(stands), (paper, (one, other))), True)

    def test_every_row_of_arguments(self):
        for own, stands in ((WILD, (0,)), (TWO, (1,)), (TWO, (0, 1)), (TURN, ()), (TURN, (0,))):
            for thing in (None, owners.needed_paper(WILD, (0,))):
                check_call(self, owners.is_needed_paper, {"machine": own, "stands": stands, "thing": thing})


class Strikes(unittest.TestCase):
    def test_against_all_strikes(self):
        kinds = set()
        for own in SOME:
            arrows = any_arrows(own)
            if len(arrows) > 8:
                continue
            sets = [gone for gone in plain.sets_of(arrows) if plain.struck(own, gone) is not None]
            for gone in sets:
                self.assertIs(owners.is_struck_enough(own, gone), plain.together(plain.struck(own, gone)))
            right = plain.least_of(sets, lambda gone: plain.together(plain.struck(own, gone)))
            self.assertEqual(owners.least_strikes(own), right)
            kinds.add(len(right) if right != [()] else "none")
        self.assertLessEqual({"none", 0, 1, 2}, kinds)

    def test_more_strikes_than_enough_are_enough(self):
        for own in SOME[:40]:
            arrows = any_arrows(own)
            sets = [gone for gone in plain.sets_of(arrows) if plain.struck(own, gone) is not None]
            enough = [some for some in sets if owners.is_struck_enough(own, some)]
            for some in enough:
                self.assertTrue(all(more in enough for more in sets if set(some) <= set(more)))

    def test_what_is_refused_in_its_order(self):
        both = ((FIRST, SECOND), (("any", ((0, 1), (1, 1))), ("ours", ((0, 0), (1, 2))), ("any", ((1, 0),))))
        for own, strikes, place in ((both, ((0, 5), (1, 0)), 1), (both, ((0, 5), (0, 7)), 5), (both, ((2, 0),), 2),
                                    (both, ((0, -1), (3, 0)), 3), (both, ((-1, 0), (0, 9)), -1), (TAME, ((0, 0),), 0),
                                    (TWO, ((0, 0), (0, 1), (1, 2)), 2), (WILD, ((0, -1), (0, 0), (0, 1)), -1),
                                    (both, ((0, 0), (0, 1), (1, 0)), 1), (TURN, ((0, 0),), 0)):
            with self.assertRaises(NoPlace) as caught:
                owners.is_struck_enough(own, strikes)
            self.assertEqual(caught.exception.place, place)
        for own, strikes in ((WILD, ((0, 0), (0, 1))), (TWO, ((0, 0), (1, 0), (1, 1))), (both, ((0, 0), (0, 1)))):
            with self.assertRaises(Unfit):
                owners.is_struck_enough(own, strikes)

    def test_stands_that_can_not_be_reached_keep_an_arrow_too(self):
        own = ((FIRST, SECOND), (("any", ((0, 0), (1, 1))), ("any", ((0, 0), (1, 0)))))
        self.assertIs(owners.is_struck_enough(own, ((0, 1),)), True)
        with self.assertRaises(Unfit):
            owners.is_struck_enough(own, ((0, 1), (1, 0), (1, 1)))
        self.assertEqual(owners.least_strikes(own), [((0, 1),), ((1, 0),)])

    def test_twelve_arrows_and_one_more(self):
        twelve, thirteen = row_of_choices(6, 2), row_of_choices(5, 3)
        told = owners.least_strikes(twelve)
        self.assertTrue(told)
        for gone in told:
            self.assertTrue(plain.together(plain.struck(twelve, gone)))
            for one in gone:
                self.assertFalse(plain.together(plain.struck(twelve, [own for own in gone if own != one])))
        self.assertRaises(TooMuch, owners.least_strikes, thirteen)
        stands = list(row_of_choices(7, 2)[1])
        self.assertRaises(TooMuch, owners.least_strikes, (twelve[0], tuple(stands)))
        # Arrows at choices of ours, and those of stands with one arrow, do not count.
        stands[2] = ("ours", stands[2][1])
        self.assertTrue(owners.least_strikes((twelve[0], tuple(stands))))
        one = tuple(stands[:6]) + (("any", ((0, 0),)),)
        self.assertEqual(len(any_arrows((twelve[0], one))), 10)
        own = (twelve[0], one[:5] + (("any", ((0, 6), (1, 6), (2, 6))), ("any", ((0, 0),))))
        self.assertEqual(len(any_arrows(own)), 11)
        self.assertTrue(owners.least_strikes(own))
        thirteen = (own[0], twelve[1][:5] + (("any", ((0, 0), (1, 0), (2, 0))),))
        self.assertEqual(len(any_arrows(thirteen)), 13)
        self.assertRaises(TooMuch, owners.least_strikes, thirteen)

    def test_the_edges(self):
        self.assertEqual(owners.least_strikes(LONE), [()])
        self.assertEqual(owners.least_strikes(TAME), [()])
        self.assertEqual(owners.least_strikes(TURN), [])
        self.assertEqual(owners.least_strikes(WILD), [((0, 0),), ((0, 1),)])
        self.assertIs(owners.is_struck_enough(TURN, ()), False)
        self.assertIs(owners.is_struck_enough(TAME, ()), surely_together(TAME))

    def test_every_row_of_arguments(self):
        for own in (TWO, WILD, TURN, DUO, LONE):
            check_call(self, owners.least_strikes, {"machine": own})
            for strikes in ((), ((0, 0),), ((0, 0), (1, 1)), ((0, 0), (0, 1)), ((0, 3), (4, 0))):
                check_call(self, owners.is_struck_enough, {"machine": own, "strikes": strikes})


if __name__ == "__main__":
    unittest.main()
