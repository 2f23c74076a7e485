"""Point 13: what can be spared, what helps."""

import unittest
from itertools import combinations

from nearercamps import spare
from nearercamps.errors import CanNot, TooMuch, Unfit
from nearercamps.machines import is_machine
from nearercamps.together import surely_together
from tests import plain_machines as plain
from tests.calls import check_call
from tests.drawn import DUO, FIRST, LONE, LONE_OURS, NAMED, SECOND, SIX_TURN, TAME, TOLD, TURN, WILD, drawn_machines

CIRCLE = (((((1,), (2,), (0,)), None),), (("any", ((0, 0),)),))
LOOSE = (((((0, 1), (2,), (0,)), None),), (("any", ((0, 0),)),))
HALF, WHOLE = ((1, 2), (1, 2)), ((1, 1),)
# The told shares of the first STEP are kept as long as its LOOKS stay; the second one is equal to the first.
SHARED = (((((0, 1), (0,)), (HALF, WHOLE)), (((0, 1), (0,)), (HALF, WHOLE)), (((1,), (0,)), None)),
          (("any", ((0, 1), (2, 1))), ("ours", ((1, 0), (2, 0)))))
SOME = tuple(drawn_machines(301, 50, 3, 4)) + NAMED + (CIRCLE, LOOSE, SHARED)


def places(own):
    return len(own[0][0][0])


def looks_of(own):
    return tuple(sorted((k, p, q) for k, (lots, _) in enumerate(own[0]) for p, lot in enumerate(lots) for q in lot))


def further(own):
    every = range(places(own))
    return tuple((k, p, q) for k in range(len(own[0])) for p in every for q in every if (k, p, q) not in looks_of(own))


def arrows_of(own, owner):
    return tuple((k, at) for k in plain.every_choice(own) if own[1][k][0] == owner for at in range(len(own[1][k][1])))


class Parts(unittest.TestCase):
    def test_looks_and_arrows_against_plain_counting(self):
        for own in SOME + (SIX_TURN,):
            self.assertEqual(spare.looks_of(own), looks_of(own))
            self.assertEqual(spare.further_looks(own), further(own))
            for owner in ("ours", "any"):
                self.assertEqual(spare.arrows_of(own, owner), arrows_of(own, owner))

    def test_the_edges(self):
        self.assertEqual((spare.looks_of(LONE), spare.further_looks(LONE)), (((0, 0, 0),), ()))
        self.assertEqual((spare.arrows_of(LONE, "any"), spare.arrows_of(LONE, "ours")), ((), ()))
        self.assertEqual(len(spare.further_looks(SIX_TURN)), 2 * 30)
        self.assertEqual(spare.arrows_of(SIX_TURN, "any"), ((1, 0), (1, 1)))

    def test_every_row_of_arguments(self):
        for own in (WILD, TOLD, LONE, SHARED):
            check_call(self, spare.looks_of, {"machine": own})
            check_call(self, spare.further_looks, {"machine": own})
            for owner in ("ours", "any"):
                check_call(self, spare.arrows_of, {"machine": own, "owner": owner})


class Changed(unittest.TestCase):
    def test_looks_left_out_against_plain_counting(self):
        for own in SOME:
            for many in (0, 1, 2, 3):
                for gone in list(combinations(looks_of(own), many))[:60]:
                    right = plain.changed(own, gone, False)
                    if right is None:
                        self.assertRaises(Unfit, spare.without_looks, own, gone)
                    else:
                        self.assertEqual(spare.without_looks(own, gone), right)
                        self.assertTrue(is_machine(right, places(own)))

    def test_looks_added_against_plain_counting(self):
        for own in SOME:
            for many in (0, 1, 2, 3):
                for new in list(combinations(further(own), many))[:60]:
                    self.assertEqual(spare.with_looks(own, new), plain.changed(own, new, True))

    def test_arrows_left_out_against_plain_counting(self):
        for own in SOME:
            every = [(k, at) for k, (_, arrows) in enumerate(own[1]) for at in range(len(arrows))]
            for many in (0, 1, 2, 3):
                for gone in list(combinations(every, many))[:80]:
                    right = plain.struck(own, gone)
                    if right is None:
                        self.assertRaises(Unfit, spare.without_arrows, own, gone)
                    else:
                        self.assertEqual(spare.without_arrows(own, gone), right)
                        self.assertTrue(is_machine(right, places(own)))

    def test_told_shares_go_only_where_looks_change(self):
        left = spare.without_looks(SHARED, ((0, 0, 1),))
        self.assertEqual(left[0], ((((0,), (0,)), None),) + SHARED[0][1:])
        more = spare.with_looks(SHARED, ((1, 1, 1), (2, 0, 0)))
        self.assertEqual(more[0][0], SHARED[0][0])
        self.assertEqual(more[0][1:], ((((0, 1), (0, 1)), None), (((0, 1), (0,)), None)))
        self.assertEqual(spare.without_looks(SHARED, ()), SHARED)
        self.assertEqual(spare.with_looks(SHARED, ()), SHARED)
        self.assertEqual(spare.without_arrows(SHARED, ()), SHARED)

    def test_what_is_no_look(self):
        for looks in (((0, 0, 2),), ((0, 1, 1),), ((-1, 0, 0),), ((3, 0, 0),), ((0, 2, 0),), ((0, -1, 0),),
                      ((0, 0, -1),),
                      ((0, 0, 1), (0, 1, 1)), ((0, 0, 0), (0, 0, 1)), ((0, 1, 0),), ((0, 0, 1), (2, 0, 1))):
            self.assertRaises(Unfit, spare.without_looks, SHARED, looks)
        for looks in (((0, 0, 0),), ((0, 1, 2),), ((3, 0, 0),), ((-1, 1, 1),), ((0, 2, 0),), ((0, -1, 1),),
                      ((0, 0, 1), (0, 1, 1)), ((2, 0, -2),)):
            self.assertRaises(Unfit, spare.with_looks, SHARED, looks)

    def test_what_is_no_arrow(self):
        for arrows in (((0, 2),), ((2, 0),), ((-1, 0),), ((0, -1),), ((0, 0), (1, 5)), ((0, 0), (0, 1)),
                       ((1, 0), (1, 1))):
            self.assertRaises(Unfit, spare.without_arrows, SHARED, arrows)
        self.assertRaises(Unfit, spare.without_arrows, LONE, ((0, 0),))

    def test_stands_that_are_not_reached_any_more_go_too(self):
        own = ((FIRST, SECOND), (("any", ((0, 1), (1, 3))), ("ours", ((0, 2), (1, 0))), ("any", ((0, 0),)),
                                 ("ours", ((1, 0), (0, 0)))))
        self.assertEqual(spare.without_arrows(own, ((0, 0),)),
                         (own[0], (("any", ((1, 1),)), ("ours", ((1, 0), (0, 0))))))
        self.assertEqual(spare.without_arrows(own, ((1, 0),)),
                         (own[0], (("any", ((0, 1), (1, 2))), ("ours", ((1, 0),)), ("ours", ((1, 0), (0, 0))))))
        with self.assertRaises(Unfit):
            spare.without_arrows(own, ((0, 0), (2, 0)))
        self.assertEqual(spare.without_arrows(own, ((0, 0), (1, 0))), spare.without_arrows(own, ((0, 0),)))

    def test_every_row_of_arguments(self):
        for own in (SHARED, WILD, TOLD, LONE):
            for looks in ((), ((0, 0, 1),), ((0, 0, 0),), ((0, 1, 1),), ((0, 0, 1), (1, 1, 2)), ((0, 0, 2), (1, 0, 0))):
                check_call(self, spare.without_looks, {"machine": own, "looks": looks})
                check_call(self, spare.with_looks, {"machine": own, "looks": looks})
            for arrows in ((), ((0, 0),), ((0, 1), (1, 0)), ((0, 0), (0, 1))):
                check_call(self, spare.without_arrows, {"machine": own, "arrows": arrows})


class Spared(unittest.TestCase):
    def test_against_each_changed_machine(self):
        kinds = set()
        for own in SOME:
            holds = plain.together(own)
            kinds.add(holds)
            if holds:
                self.check_what_can_be_spared(own)
                for function in (spare.helping_looks, spare.harmful_arrows):
                    self.assertRaises(CanNot, function, own)
            else:
                self.check_what_helps(own)
                for function in (spare.needless_looks, spare.spare_looks, spare.needless_arrows):
                    self.assertRaises(CanNot, function, own)
        self.assertEqual(kinds, {True, False})

    def check_what_can_be_spared(self, own):
        alone = [(look, plain.changed(own, (look,), False)) for look in looks_of(own)]
        right = tuple(look for look, left in alone if left is not None and plain.together(left))
        self.assertEqual(spare.needless_looks(own), right)
        gone = ()
        for look in looks_of(own):
            left = plain.changed(own, gone + (look,), False)
            gone += (look,) if left is not None and plain.together(left) else ()
        self.assertEqual(spare.spare_looks(own), gone)
        self.assertTrue(surely_together(spare.without_looks(own, gone)))
        right = tuple(arrow for arrow in arrows_of(own, "ours") if plain.together(plain.struck(own, (arrow,))))
        self.assertEqual(spare.needless_arrows(own), right)

    def check_what_helps(self, own):
        right = tuple(look for look in further(own) if plain.together(plain.changed(own, (look,), True)))
        self.assertEqual(spare.helping_looks(own), right)
        right = tuple(arrow for arrow in arrows_of(own, "any") if plain.together(plain.struck(own, (arrow,))))
        self.assertEqual(spare.harmful_arrows(own), right)

    def test_more_looks_and_fewer_arrows_of_anybody_never_end_it(self):
        for own in SOME:
            more = [plain.changed(own, (look,), True) for look in further(own)]
            less = [plain.changed(own, (look,), False) for look in looks_of(own)]
            fewer = [plain.struck(own, (arrow,)) for arrow in arrows_of(own, "any")]
            ours = [plain.struck(own, (arrow,)) for arrow in arrows_of(own, "ours")]
            if surely_together(own):
                self.assertTrue(all(surely_together(other) for other in more + fewer))
            else:
                self.assertFalse(any(surely_together(other) for other in ours + less if other is not None))

    def test_spare_looks_look_at_what_is_left(self):
        full = (((((0, 1, 2),) * 3, None),), (("any", ((0, 0),)),))
        self.assertEqual(spare.needless_looks(full), looks_of(full))
        self.assertEqual(spare.spare_looks(full), ((0, 0, 0), (0, 0, 1), (0, 1, 0), (0, 1, 1), (0, 2, 0), (0, 2, 1)))

    def test_the_edges(self):
        self.assertEqual((spare.needless_looks(LONE), spare.spare_looks(LONE)), ((), ()))
        self.assertEqual(spare.needless_arrows(LONE), ())
        self.assertEqual(spare.needless_arrows(LONE_OURS), ((0, 0), (0, 1)))
        self.assertEqual(spare.needless_arrows(DUO), ())
        self.assertEqual(spare.harmful_arrows(TURN), ())

    def test_every_row_of_arguments(self):
        for own in (SHARED, WILD, TAME, DUO, LOOSE, CIRCLE, LONE):
            for function in (spare.needless_looks, spare.spare_looks, spare.needless_arrows, spare.helping_looks,
                             spare.harmful_arrows):
                check_call(self, function, {"machine": own})


class Fewest(unittest.TestCase):
    def plainly(self, own, most):
        for many in range(most + 1):
            for new in combinations(further(own), many):
                if plain.together(plain.changed(own, new, True)):
                    return new
        return None

    def test_against_all_sets(self):
        kinds = set()
        for own in SOME:
            for most in (0, 1, 2, 3):
                count = sum(len(list(combinations(further(own), many))) for many in range(most + 1))
                if count > 5000:
                    self.assertRaises(TooMuch, spare.fewest_looks, own, most)
                elif count < 700:
                    right = self.plainly(own, most)
                    self.assertEqual(spare.fewest_looks(own, most), right)
                    kinds.add(None if right is None else len(right))
        self.assertLessEqual({None, 0, 1}, kinds)

    def test_two_or_three_are_needed(self):
        own = (((((0,), (1,), (2,)), None), (((0,), (1,), (2,)), None)), (("any", ((0, 1),)), ("any", ((1, 0),))))
        self.assertIsNone(spare.fewest_looks(own, 1))
        self.assertEqual(spare.fewest_looks(own, 2), self.plainly(own, 2))
        self.assertEqual(spare.fewest_looks(own, 3), ((0, 0, 1), (0, 1, 2)))
        swap, turn = (((2,), (1,), (0,)), None), (((2,), (0,), (1,)), None)
        own = ((swap, turn), (("any", ((0, 1),)), ("any", ((1, 0), (0, 0)))))
        self.assertEqual(spare.fewest_looks(own, 2), self.plainly(own, 2))
        self.assertEqual(spare.fewest_looks(own, 3), ((0, 0, 0), (0, 0, 1)))
        own = (((((0,), (1,), (2,), (3,)), None),), (("any", ((0, 0),)),))
        self.assertIsNone(spare.fewest_looks(own, 2))
        self.assertEqual(spare.fewest_looks(own, 3), ((0, 0, 1), (0, 1, 2), (0, 2, 3)))

    def test_the_most_sets_and_more(self):
        # Of 31 further looks there are 4992 sets of up to three, of 32 there are 5489.
        still = (tuple((p,) for p in range(6)), None)
        wide = (((0, 1, 2, 3, 4, 5),) * 4 + ((0, 1, 2, 3, 4, 5), (0, 1, 2, 3, 4)), None)
        wider = (wide[0][:4] + ((0, 1, 2, 3, 4), (0, 1, 2, 3, 4)), None)
        free = (("any", ((0, 0), (1, 0))),)
        own = ((still, wide), free)
        self.assertEqual(len(further(own)), 31)
        self.assertIsNone(spare.fewest_looks(own, 3))
        self.assertEqual(len(further(((still, wider), free))), 32)
        with self.assertRaises(TooMuch):
            spare.fewest_looks(((still, wider), free), 3)
        with self.assertRaises(TooMuch):
            spare.fewest_looks(((wider, still, wide), (("ours", ((0, 0), (1, 0), (2, 0))),)), 3)
        self.assertEqual(spare.fewest_looks(((wider, still, wide), (("ours", ((0, 0), (1, 0), (2, 0))),)), 2), ())

    def test_two_at_most_of_ninety_nine_and_of_a_hundred(self):
        # 4951 sets of up to two of 99 further looks, 5051 of 100.
        still = ((tuple((p,) for p in range(6)), None),) * 4
        free = (still, (("ours", tuple((step, 0) for step in range(4))),))
        own = plain.changed(free, further(free)[:21], True)
        self.assertEqual(len(further(own)), 99)
        self.assertEqual(spare.fewest_looks(own, 2), ())
        own = plain.changed(free, further(free)[:20], True)
        self.assertEqual(len(further(own)), 100)
        self.assertRaises(TooMuch, spare.fewest_looks, own, 2)
        self.assertEqual(spare.fewest_looks(own, 1), ((0, 4, 0),))

    def test_no_set_needs_more_than_there_are(self):
        self.assertEqual(spare.fewest_looks(LONE, 3), ())
        self.assertEqual(spare.fewest_looks(LONE, 0), ())
        self.assertIsNone(spare.fewest_looks(TURN, 0))

    def test_every_row_of_arguments(self):
        for own in (SHARED, WILD, CIRCLE, LONE, TURN):
            for most in (0, 1, 2):
                check_call(self, spare.fewest_looks, {"machine": own, "most": most})


if __name__ == "__main__":
    unittest.main()
