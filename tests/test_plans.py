"""Point 6, plans.py: PLANS and their MACHINES."""

import random
import unittest

from nearercamps import plans
from nearercamps.errors import CanNot, NoPlace, TooMuch
from nearercamps.machines import go_alike, is_machine, merged, rounds, within_rounds
from nearercamps.together import surely_together
from tests import plain_machines as plain
from tests import plain_plans as told
from tests.calls import check_call
from tests.drawn import NAMED, SIX_TURN, drawn_machines
from tests.support import as_lists, check_kind, nested

FORTH, BACK = (((0,), (0,), (1,)), None), (((1,), (2,), (2,)), None)
HOLD = (((0,), (1,), (2,)), (((1, 1),),) * 3)
A, B = ("step", "forth"), ("step", "back")
PLACES, STEPS = ("a", "b", "c"), (("forth", FORTH), ("back", BACK))


def plan(deeds, pieces=(), within=(), steps=STEPS):
    return PLACES, steps, pieces, deeds, within


TEXT = plan((("ours", ((A,), (B, A))), ("times", 2, (B,))))
DEEP = plan((("times", 2, (("call", "q"), ("anybody", ((("call", "p"), ("ours", ((A,), (B, B)))), (A, A), (B,))))), A),
            (("p", (B, ("times", 2, (A,)))), ("q", (("ours", ((("call", "p"), A), (("times", 3, (B,)),))),))),
            (("back", 4), ("forth", 5)))
RNG = random.Random(61)
SOME = [TEXT, DEEP] + told.drawn_plans(RNG, 250) + told.drawn_plans(RNG, 40, 2, 3)


def size(own):
    return len(told.stands(told.written(own[3], own[2])))


def wants(own):
    names = [name for name, _ in own[1]]
    return tuple((names.index(name), many) for name, many in own[4])


class Kinds(unittest.TestCase):
    def test_right_ones(self):
        for own in SOME:
            self.assertIs(told.plan(own), True)
            self.assertIs(plans.is_plan(own), True)

    def test_things_of_every_kind(self):
        for own in (TEXT, DEEP, plan((A,), within=(("forth", 1),))):
            check_kind(self, plans.is_plan, told.plan, own)

    def test_names(self):
        many = [("a", True), ("z", True), ("abcdefgh", True), ("abcdefghi", False), ("", False), ("A", False),
                ("a1", False), ("a b", False), ("a_b", False), ("\u00e4", False), ("{a", False), ("`", False),
                ("stands", True), ("time", True), (" ", False), (7, False), (None, False)]
        for name, right in many + [(word, False) for word in told.WORDS]:
            own = ("step", name)
            self.assertIs(plans.is_plan((PLACES, ((name, FORTH),), (), (own,), ())), right)
            self.assertIs(plans.is_plan(((name, "b", "c"), STEPS, (), (A,), ())), right and name != "b")
            self.assertIs(plans.is_plan(plan((A,), ((name, (A,)),))), right)
            if right:
                self.assertIs(plans.is_plan(plan((A,), within=((name, 1),), steps=STEPS + ((name, BACK),))), True)

    def test_unlike_names(self):
        self.assertIs(plans.is_plan((("a", "b", "a"), STEPS, (), (A,), ())), False)
        self.assertIs(plans.is_plan(plan((A,), steps=STEPS + (("forth", BACK),))), False)
        self.assertIs(plans.is_plan(plan((A,), (("forth", (A,)),))), False)
        self.assertIs(plans.is_plan(plan((A,), (("p", (A,)), ("p", (B,))))), False)
        # Places and STEPS may have the same NAMES.
        self.assertIs(plans.is_plan((("forth", "back", "c"), STEPS, (), (A,), ())), True)
        # Unlike NAMES may tell equal STEPS.
        self.assertIs(plans.is_plan(plan((A,), steps=STEPS + (("more", BACK),))), True)

    def test_steps_for_so_many_places(self):
        self.assertIs(plans.is_plan((("a", "b"), STEPS, (), (A,), ())), False)
        self.assertIs(plans.is_plan(plan((A,), steps=STEPS + (("hold", HOLD),))), True)
        self.assertIs(plans.is_plan((PLACES, (), (), (A,), ())), False)
        self.assertIs(plans.is_plan(((), STEPS, (), (A,), ())), False)

    def test_calls(self):
        p, q = ("call", "p"), ("call", "q")
        self.assertIs(plans.is_plan(plan((q, p), (("p", (A,)), ("q", (p, p))))), True)
        self.assertIs(plans.is_plan(plan((q, p), (("p", (q,)), ("q", (A,))))), False)
        self.assertIs(plans.is_plan(plan((p,), (("p", (p,)),))), False)
        self.assertIs(plans.is_plan(plan((p,))), False)
        self.assertIs(plans.is_plan(plan((("call", "forth"),))), False)
        self.assertIs(plans.is_plan(plan((("step", "p"),), (("p", (A,)),))), False)

    def test_times(self):
        for many, right in ((1, True), (9, True), (10 ** 40, True), (0, False), (-1, False), (True, False),
                            ("2", False)):
            self.assertIs(plans.is_plan(plan((("times", many, (A,)),))), right)
        self.assertIs(plans.is_plan(plan((("times", 2, ()),))), False)
        self.assertIs(plans.is_plan(plan((("times", 2),))), False)

    def test_branches(self):
        choice = ("ours", ((A,), (B,)))
        for branch, right in (((A,), True), ((A, choice), True), ((choice,), False), ((("times", 2, (A,)),), True),
                              ((("times", 2, (choice,)),), False), ((("times", 1, (A, choice)),), True), ((), False),
                              ((("call", "p"),), True), ((("call", "q"),), False), ((("call", "r"),), True),
                              ((("times", 3, (("call", "q"),)),), False), ((("times", 3, (("call", "r"), choice)),),
                                                                           True)):
            own = plan((("anybody", ((A,), branch)),),
                       (("p", (A, choice)), ("q", (choice, A)), ("r", (("times", 2, (("call", "p"),)),))))
            self.assertIs(plans.is_plan(own), right, branch)
        for owner in ("any", "step", "call", "nobody", ""):
            self.assertIs(plans.is_plan(plan(((owner, ((A,), (B,))),))), False)
        self.assertIs(plans.is_plan(plan((("ours", ((A,),)),))), False)
        self.assertIs(plans.is_plan(plan((("ours", ((A,), (A,))),))), True)

    def test_within(self):
        for within, right in (((("back", 1), ("forth", 10 ** 9)), True), ((("forth", 1), ("back", 1)), False),
                              ((("back", 1), ("back", 2)), False), ((("back", 0),), False), ((("none", 1),), False),
                              ((("p", 1),), False), ((("back", True),), False), ([], False), ((("back",),), False)):
            self.assertIs(plans.is_plan(plan((A,), (("p", (A,)),), within)), right, within)

    def test_beyond_the_bounds(self):
        deeds = (A,)
        for _ in range(45):
            deeds = (("times", 9, deeds),)
        self.assertIs(plans.is_plan(plan(deeds)), True)
        self.assertIs(plans.is_plan(plan((A,) * 3000)), True)
        self.assertIs(plans.is_plan(plan(nested(90))), False)


class Machines(unittest.TestCase):
    def test_written_out(self):
        many = 0
        for own in SOME:
            if size(own) <= 60:
                made = plans.written_out(own)
                self.assertEqual(made, (own[0], own[1], (), told.written(own[3], own[2]), own[4]))
                self.assertIs(plans.is_plan(made), True)
                self.assertIs(told.has_calls(made[3]), False)
                self.assertEqual(plans.written_out(made), made)
                many += told.has_calls(own[3])
            else:
                self.assertRaises(TooMuch, plans.written_out, own)
        self.assertGreater(many, 60)

    def test_machines_against_reading_one_by_one(self):
        kinds = set()
        for own in SOME:
            if size(own) > 60:
                self.assertRaises(TooMuch, plans.machine_of, own)
                kinds.add("too much")
                continue
            plainly = told.machine(own)
            self.assertIs(is_machine(plainly, len(own[0])), True)
            if own[4] == ():
                self.assertEqual(plans.machine_of(own), plainly)
                kinds.add("plain")
            else:
                kinds.add(self.check_within(own, plainly))
        self.assertEqual(kinds, {"too much", "plain", "within", "none"})

    def check_within(self, own, plainly):
        try:
            right = within_rounds(plainly, wants(own))
        except CanNot:
            self.assertRaises(CanNot, plans.machine_of, own)
            return "none"
        self.assertEqual(plans.machine_of(own), right)
        return "within"

    def test_rounds_against_the_words_of_the_deeds(self):
        many = 0
        for own in SOME:
            ways = set(told.ways(own[3], own[2])) if size(own) <= 25 else []
            if 0 < len(ways) <= 100:
                self.check_rounds(own, ways)
                many += 1
        self.assertGreater(many, 150)

    def check_rounds(self, own, ways):
        left = {row for row in ways if self.comes_in_time(row, own[4])}
        if not left:
            self.assertRaises(CanNot, plans.machine_of, own)
            return
        made = plans.machine_of(own)
        names = {tuple(plans.step_names(own, row)) for row in rounds(made)}
        self.assertEqual(names, left)

    def comes_in_time(self, row, within):
        return all(name in row[k:k + many] for name, many in within for k in range(len(row) - many + 1))

    def test_owners_and_equal_arrows(self):
        for word, owner in (("ours", "ours"), ("anybody", "any")):
            self.assertEqual(plans.machine_of(plan(((word, ((A,), (B,))),)))[1], ((owner, ((0, 0), (1, 0))),))
            self.assertEqual(plans.machine_of(plan(((word, ((A,), (A,), (A,))),)))[1], (("any", ((0, 0),)),))
            self.assertEqual(plans.machine_of(plan(((word, ((A, B), (A,), (A, B))),)))[1],
                             ((owner, ((0, 1), (0, 0), (0, 2))), ("any", ((1, 0),)), ("any", ((1, 0),))))
        # Equal STEPS under unlike NAMES are others.
        own = plan((("ours", ((A,), (("step", "more"),))),), steps=STEPS + (("more", FORTH),))
        self.assertEqual(plans.machine_of(own)[1], (("ours", ((0, 0), (2, 0))),))

    def test_branches_that_begin_with_a_call_or_times(self):
        inner = ("anybody", ((A,), (B,)))
        own = plan((("ours", ((("call", "p"), A), (("times", 2, (B,)), inner))), B), (("p", (A, B)),))
        self.assertEqual(plans.machine_of(own)[1],
                         (("ours", ((0, 1), (1, 3))), ("any", ((1, 2),)), ("any", ((0, 5),)), ("any", ((1, 4),)),
                          ("any", ((0, 5), (1, 5))), ("any", ((1, 0),))))

    def test_exactly_sixty_stands(self):
        for deeds, right in (((("times", 60, (A,)),), True), ((("times", 61, (A,)),), False), ((A,) * 60, True),
                             ((("times", 9, (("times", 6, (A,)),)),) + (A,) * 6, True),
                             ((("times", 9, (("times", 6, (A,)),)),) + (A,) * 7, False),
                             ((("ours", ((A,) * 30, (B,) * 31)),), True), ((("ours", ((A,) * 31, (B,) * 31)),), False),
                             ((("times", 10 ** 30, (A,)),), False)):
            own = plan(deeds)
            for function in (plans.written_out, plans.machine_of):
                if right:
                    function(own)
                else:
                    self.assertRaises(TooMuch, function, own)
        # What is not called does not count.
        own = plan((A,), (("p", (("times", 9 ** 9, (A,)),)), ("q", (("times", 9 ** 9, (("call", "p"),)),))))
        self.assertEqual(plans.machine_of(own)[1], (("any", ((0, 0),)),))
        self.assertEqual(plans.written_out(own), plan((A,)))
        # Within is left aside: there may be more stands then, but not ahead of it.
        wide = plan((("anybody", ((A,), (B,))),) * 60, within=(("back", 4),))
        self.assertGreater(len(plans.machine_of(wide)[1]), 60)

    def test_exactly_two_hundred_arrows(self):
        steps = tuple((name, FORTH) for name in "abcdefghij")
        wide = ("anybody", tuple((("step", name),) for name in "abcdefghij"))
        own = plan((wide,) * 20, steps=steps)
        self.assertEqual(sum(len(arrows) for _, arrows in plans.machine_of(own)[1]), 200)
        more = plan((wide,) * 20 + (("step", "a"),), steps=steps)
        self.assertRaises(TooMuch, plans.machine_of, more)
        self.assertEqual(len(plans.written_out(more)[3]), 21)
        # Too many arrows come ahead of no round that is left.
        self.assertRaises(TooMuch, plans.machine_of, more[:4] + ((("a", 1), ("b", 1)),))
        self.assertRaises(CanNot, plans.machine_of, own[:4] + ((("a", 1), ("b", 1)),))
        # Equal arrows do not count.
        twice = ("anybody", wide[1] * 2)
        self.assertEqual(plans.machine_of(plan((twice,) * 20, steps=steps)), plans.machine_of(own))

    def test_within_one_or_two_steps(self):
        choice = ("ours", ((A,), (B,)))
        self.assertEqual(plans.machine_of(plan((choice, choice), within=(("forth", 2),)))[1],
                         (("ours", ((0, 1), (1, 2))), ("ours", ((0, 0), (1, 0))), ("ours", ((0, 0),))))
        both = plans.machine_of(plan((choice, choice), within=(("back", 2), ("forth", 2))))
        self.assertEqual(sorted(rounds(both)), [(0, 0), (1, 0)])
        self.assertRaises(CanNot, plans.machine_of, plan((A,), within=(("back", 1),)))
        self.assertEqual(plans.machine_of(plan((A,), within=(("back", 2),)))[1], (("any", ((0, 0),)),))


class Names(unittest.TestCase):
    def test_names_of_rows(self):
        rng = random.Random(2)
        for own in SOME:
            try:
                made = plans.machine_of(own)
            except (TooMuch, CanNot) as error:
                # These come ahead of the row.
                self.assertRaises(type(error), plans.step_names, own, (99,))
                continue
            row, k, right = (), 0, []
            for _ in range(rng.randint(0, 30)):
                row += (rng.randrange(len(made[1][k][1])),)
                step, k = made[1][k][1][row[-1]]
                right.append(own[1][step][0])
            self.assertEqual(plans.step_names(own, row), right)

    def test_no_such_arrow(self):
        for row, place in (((2,), 2), ((0, 1), 1), ((-1,), -1), ((1, 0, 0, 5), 5)):
            with self.assertRaises(NoPlace) as caught:
                plans.step_names(TEXT, row)
            self.assertEqual(caught.exception.place, place)
        self.assertEqual(plans.step_names(TEXT, ()), [])


SOME_MACHINES = tuple(drawn_machines(601, 120, 3, 6)) + tuple(drawn_machines(602, 20, 3, 14, more=3)) + (SIX_TURN,)


def inner_rows(own):
    """Return how many rows do not come to the beginning again, and how many do not ahead of their end."""
    inner, going, ends = 0, [0], 0
    while going and inner < 300:
        k = going.pop()
        inner += 1
        ends += len(own[1][k][1])
        going += [end for _, end in own[1][k][1] if end != 0]
    return inner, ends


class Back(unittest.TestCase):
    def test_the_machine_of_the_plan_goes_alike(self):
        many = 0
        for own in NAMED + SOME_MACHINES:
            inner, ends = inner_rows(own)
            if inner > 25 or ends > 200:
                self.assertRaises(TooMuch, plans.plan_of, own)
                many += 1
                continue
            made = plans.plan_of(own)
            self.assertIs(told.plan(made), True)
            self.assertEqual(made[4], ())
            machine = plans.machine_of(made)
            self.assertIs(go_alike(machine, own), True)
            self.assertEqual(merged(machine), merged(own))
            self.assertIs(surely_together(machine), plain.together(own))
        self.assertGreater(many, 5)

    def test_exactly_25_rows(self):
        for many, right in ((25, True), (26, False)):
            chain = ((FORTH,), tuple(("any", ((0, (k + 1) % many),)) for k in range(many)))
            if right:
                self.assertEqual(plans.machine_of(plans.plan_of(chain)), chain)
            else:
                self.assertRaises(TooMuch, plans.plan_of, chain)
        # Each choice is met twice as often as the one before.
        doubled = (FORTH, BACK), tuple(("ours", ((0, k + 1), (1, k + 1))) for k in range(3)) + (("any", ((0, 0),)),)
        self.assertEqual(inner_rows(doubled), (15, 22))
        self.assertIs(go_alike(plans.machine_of(plans.plan_of(doubled)), doubled), True)
        long = (FORTH, BACK), doubled[1][:-1] + (("any", ((0, 4),)), ("any", ((0, 0),)))
        self.assertEqual(inner_rows(long)[0], 23)
        self.assertIs(go_alike(plans.machine_of(plans.plan_of(long)), long), True)
        longer = (FORTH, BACK), long[1][:-1] + (("any", ((0, 5),)), ("any", ((0, 0),)))
        self.assertRaises(TooMuch, plans.plan_of, longer)
        deep = tuple(("ours", ((0, 0), (1, k + 1))) for k in range(24)) + (("any", ((0, 0),)),)
        self.assertIs(go_alike(plans.machine_of(plans.plan_of(((FORTH, BACK), deep))), ((FORTH, BACK), deep)), True)

    def test_exactly_200_rows(self):
        for many, right in ((200, True), (201, False)):
            wide = ((FORTH,) * many, (("any", tuple((k, 0) for k in range(many))),))
            if right:
                self.assertEqual(plans.machine_of(plans.plan_of(wide)), wide)
            else:
                self.assertRaises(TooMuch, plans.plan_of, wide)
        more = ((FORTH,) * 100, (("ours", ((0, 1), (1, 1))), ("any", tuple((k, 0) for k in range(99)))))
        self.assertIs(go_alike(plans.machine_of(plans.plan_of(more)), more), True)
        most = ((FORTH,) * 100, (("ours", ((0, 1), (1, 1))), ("any", tuple((k, 0) for k in range(100)))))
        self.assertRaises(TooMuch, plans.plan_of, most)

    def test_many_names(self):
        wide = ((FORTH,) * 199, (("any", tuple((k, 0) for k in range(199))),))
        self.assertIs(told.plan(plans.plan_of(wide)), True)
        many = ((FORTH,) * 9000, (("any", ((8999, 0),)),))
        self.assertIs(told.plan(plans.plan_of(many)), True)


class Calls(unittest.TestCase):
    def test_every_row_of_arguments(self):
        for own in SOME[:30] + [plan((("times", 61, (A,)),)), plan((A,), within=(("back", 1),))]:
            check_call(self, plans.is_plan, {"thing": own})
            self.assertIs(plans.is_plan(as_lists(own)), False)
            check_call(self, plans.written_out, {"plan": own})
            check_call(self, plans.machine_of, {"plan": own})
            for row in ((), (0, 0), (7,)):
                check_call(self, plans.step_names, {"plan": own, "row": row})
        for own in NAMED:
            check_call(self, plans.plan_of, {"machine": own})


if __name__ == "__main__":
    unittest.main()
