"""Point 6, planlines.py: PLANS as texts."""

import random
import unittest

from nearercamps import planlines
from nearercamps.errors import BadLine
from nearercamps.names import first_names
from nearercamps.plans import is_plan, plan_of
from tests import plain_lines
from tests import plain_plans
from tests.calls import check_call
from tests.drawn import DUO, SIX_TURN, TOLD
from tests.support import as_lists

TEXT = """places a b c
step forth: b from a; c from b
step mix: a from 1/2 b 1/2 a
piece p: mix 2 times (forth)
within 3 forth
within 2 mix
plan
  ours (forth | mix forth)
  2 times (p) p
again"""
LINES = TEXT.split("\n")
SOME = plain_plans.drawn_plans(random.Random(62), 300, 4, 3)
SIGNS = "abcz 01()|:;/\n\tA-"
WORDS = ["plan", "again", "all stand", "from", "ours", "anybody", "times", "(", ")", "|", "; ", ": ", "1/2", "0", "2",
         " ", "  ", "\n", "step", "within 2 forth", "piece q: forth", "forth", "a", "\n\n"]


def bad_line(text):
    """Return the PLAN of text, or the number of its bad line."""
    try:
        return planlines.plan_by(text)
    except BadLine as error:
        return error.line


def bent(rng, text):
    """Return text with some changes."""
    for _ in range(rng.choice([1, 1, 2])):
        at, end = rng.randint(0, len(text)), rng.randint(0, len(text))
        lines = text.split("\n")
        k = rng.randrange(len(lines))
        kind = rng.randrange(7)
        if kind == 0:
            text = text[:at] + text[at + 1:]
        elif kind == 1:
            text = text[:at] + rng.choice(SIGNS) + text[at:]
        elif kind == 2:
            text = text[:at] + rng.choice(WORDS) + text[at:]
        elif kind == 3:
            text = text[:at] + text[max(at, end):]
        elif kind == 4:
            text = "\n".join(lines[:k] + lines[k + 1:])
        elif kind == 5:
            text = "\n".join(lines[:k] + [rng.choice(lines)] + lines[k:])
        else:
            text = "\n".join(lines[:k] + [lines[k] + " " + rng.choice(WORDS)] + lines[k + 1:])
    return text


def ends_of(lines):
    """Return texts that may stand behind lines so that the whole is a text."""
    names = first_names(40)
    used = " ".join(lines).replace(":", " ").split()
    name = [word for word in names if word not in used][0]
    tail = ["plan", "  " + name, "again"]
    known = [line.split(" ")[1].rstrip(":") for line in lines if line.startswith("step ") and len(line) > 6]
    found = [[f"step {name}: all stand"] + tail, [f"places {name}", f"step {name}: all stand"] + tail, ["again"], []]
    for word in known[:1]:
        found += [["plan", "  " + word, "again"], ["  " + word, "again"]]
    return found


def can_go_on(lines):
    return any(not isinstance(bad_line("\n".join(lines + end)), int) for end in ends_of(lines) if lines + end)


class Texts(unittest.TestCase):
    def test_the_text_of_a_plan_is_read_as_this_plan(self):
        for own in SOME:
            text = planlines.plan_text(own)
            self.assertEqual(planlines.plan_by(text), own)
            self.assertEqual(plain_lines.read(text), own)

    def test_drawn_texts_of_a_plan(self):
        rng = random.Random(1)
        for own in SOME:
            for _ in range(3):
                text = plain_lines.draw_text(rng, own)
                self.assertEqual(planlines.plan_by(text), own)
                self.assertEqual(plain_lines.read(text), own)

    def test_texts_are_written_as_stated(self):
        a = (((0,), (0, 2), (2,)), None)
        b = (((0, 1), (1,), (0, 1, 2)), (((1, 3), (2, 3)), ((1, 1),), ((1, 6), (1, 6), (2, 3))))
        still, told = (((0,), (1,), (2,)), None), (((0,), (1,), (2,)), (((1, 1),),) * 3)
        steps = (("a", a), ("b", b), ("still", still), ("told", told))
        deeds = (("step", "a"), ("times", 3, (("step", "b"), ("call", "q"))),
                 ("ours", ((("step", "a"),), (("call", "p"), ("step", "b")))))
        own = (("x", "y", "z"), steps, (("p", (("step", "a"),)), ("q", (("call", "p"), ("step", "told")))), deeds,
               (("b", 4), ("told", 123456789)))
        self.assertIs(plain_plans.plan(own), True)
        self.assertEqual(planlines.plan_text(own).split("\n"), [
            "places x y z", "step a: y from x z", "step b: x from 1/3 x 2/3 y; z from 1/6 x 1/6 y 2/3 z",
            "step still: all stand", "step told: x from 1 x", "piece p: a", "piece q: p told", "within 4 b",
            "within 123456789 told", "plan", "  a", "  3 times (b q)", "  ours (a | p b)", "again"])
        self.assertEqual(planlines.plan_by(planlines.plan_text(own)), own)

    def test_plans_that_are_returned(self):
        for own in (DUO, TOLD, SIX_TURN):
            made = plan_of(own)
            self.assertEqual(planlines.plan_by(planlines.plan_text(made)), made)
        deep = tuple(("ours", ((0, 0), (1, k + 1))) for k in range(24)) + (("any", ((0, 0),)),)
        made = plan_of((DUO[0], deep))
        self.assertEqual(planlines.plan_by(planlines.plan_text(made)), made)

    def test_bent_texts_against_reading_line_by_line(self):
        rng = random.Random(2)
        met = {}
        for own in SOME:
            text = plain_lines.draw_text(rng, own)
            for _ in range(25):
                wrong = bent(rng, text)
                right = plain_lines.read(wrong)
                self.assertEqual(bad_line(wrong), right, wrong)
                kind = "right" if not isinstance(right, int) else "behind" if right > len(wrong.split("\n")) else "bad"
                met[kind] = met.get(kind, 0) + 1
                if kind == "right":
                    self.assertIs(is_plan(right), True)
        self.assertGreater(min(met.values()), 50)
        self.assertEqual(len(met), 3)

    def test_the_line_is_the_first_behind_which_no_text_goes_on(self):
        rng = random.Random(3)
        for own in SOME[:100]:
            for _ in range(6):
                wrong = bent(rng, plain_lines.draw_text(rng, own))
                line = bad_line(wrong)
                lines = wrong.split("\n")
                if isinstance(line, int):
                    self.assertIs(can_go_on(lines[:line - 1]), True, wrong)
                    if line <= len(lines):
                        self.assertIs(can_go_on(lines[:line]), False, wrong)


class Edges(unittest.TestCase):
    def check_line(self, k, line, right):
        """Hold that LINES with this one in the place of k (from 1) are a text, or that this very line is bad."""
        text = "\n".join(LINES[:k - 1] + [line] + LINES[k:])
        told = bad_line(text)
        self.assertEqual(told, plain_lines.read(text), line)
        if right:
            self.assertIs(is_plan(told), True, line)
        else:
            self.assertEqual(told, k, line)
        return told

    def test_the_text_itself(self):
        self.assertIs(is_plan(bad_line(TEXT)), True)

    def test_the_empty_text_and_missing_lines(self):
        self.assertEqual(bad_line(""), 1)
        self.assertEqual(bad_line("\n"), 1)
        for many in range(1, len(LINES)):
            self.assertEqual(bad_line("\n".join(LINES[:many])), many + 1)
        for more in ("", "again", "  forth", " ", "plan", TEXT):
            self.assertEqual(bad_line(TEXT + "\n" + more), len(LINES) + 1)
        self.assertEqual(bad_line("places a\nplan\n  a\nagain"), 2)
        self.assertEqual(bad_line("places a\nstep s: all stand\nplan\nagain"), 4)
        self.assertEqual(bad_line("\n" + TEXT), 1)

    def test_places(self):
        for line, right in (("places a b c d", True), ("places c b a", True), ("places a b b", False),
                            ("places", False),
                            ("places ", False), ("places  a b c", False), ("places a b c ", False),
                            ("places a b from", False), ("places a b c9", False), ("Places a b c", False),
                            ("places a\tb c", False), (" places a b c", False)):
            self.check_line(1, line, right)

    def test_steps_by_parts(self):
        for line, right in (("step forth: all stand", True), ("step forth: all  stand", False), ("step forth:", False),
                            ("step forth: ", False), ("step forth all stand", False), ("step forth : all stand", False),
                            ("step forth: b from a c", True), ("step forth: b from c a", True),
                            ("step forth: b from a a", False), ("step forth: b from", False),
                            ("step forth: b from ", False), ("step forth: b", False), ("step forth: d from a", False),
                            ("step forth: b from d", False), ("step forth: b from a; b from c", False),
                            ("step forth: c from b; b from a", True), ("step forth: b from b", True),
                            ("step forth: b from a;c from b", False), ("step forth: b from a ; c from b", False),
                            ("step forth: b from a; ", False), ("step forth: b  from a", False),
                            ("step forth: b to a", False), ("step forth: b from a; all stand", False),
                            ("step from: b from a", False), ("step forth: b from a c; a from a", True)):
            self.check_line(2, line, right)
        self.check_line(3, "step forth: b from a", False)

    def test_shares(self):
        forty, more = "1" + "0" * 39, "1" + "0" * 40
        for part, right in (("1 a", True), ("1/1 a", True), ("2/2 a", True), ("1/2 a 1/2 b", True),
                            ("1/2 b 1/2 a", True),
                            ("1/3 a 1/3 b", False), ("1/2 a 1/2 a", False), ("1/2 a b", False), ("a 1/2 b", False),
                            ("0 a 1 b", False), ("0/2 a 1 b", False), ("1/0 a", False), ("1/2 a 2/4 b", True),
                            ("003/6 a 0001/2 b", True), ("00 a 1 b", False), ("-1 a 2 b", False),
                            ("0.5 a 1/2 b", False),
                            (f"{forty}/{forty} a", True), (f"{more}/{more} a", False), (f"{'0' * 39}1 a", True),
                            (f"{'0' * 40}1 a", False), ("1/ a", False), ("/1 a", False), ("1/2/2 a", False),
                            ("1/2 a 1/2", False), ("1 /1 a", False), ("\u00b2/2 a", False), ("1/2  a 1/2 b", False)):
            self.check_line(3, "step mix: a from " + part, right)
        for line, right in (("step mix: a from 1 b; b from c", False), ("step mix: a from b; b from 1 c", False),
                            ("step mix: a from 1 b; b from 1 c", True), ("step mix: c from 1 c", True)):
            self.check_line(3, line, right)

    def test_what_shares_mean(self):
        def step(line):
            return bad_line("\n".join(LINES[:2] + [line] + LINES[3:]))[1][1][1]

        still = ((0,), (1,), (2,))
        ones = (((1, 1),),) * 3
        self.assertEqual(step("step mix: all stand"), (still, None))
        self.assertEqual(step("step mix: c from c"), (still, None))
        self.assertEqual(step("step mix: c from 1 c"), (still, ones))
        self.assertEqual(step("step mix: a from 004/8 c 3/6 a"), (((0, 2), (1,), (2,)), (((1, 2),) * 2,) + ones[1:]))
        self.assertEqual(step("step mix: b from 1/4 c 2/4 a 1/4 b; a from 1 c"),
                         (((2,), (0, 1, 2), (2,)), (((1, 1),), ((1, 2), (1, 4), (1, 4)), ((1, 1),))))
        self.assertEqual(step("step mix: b from c a"), (((0,), (0, 2), (2,)), None))

    def test_pieces(self):
        for line, right in (("piece p: forth", True), ("piece p:", False), ("piece p: ", False), ("piece p: p", False),
                            ("piece p: q", False), ("piece forth: mix", False), ("piece mix: mix", False),
                            ("piece plan: mix", False), ("piece p: ours (forth | mix)", True),
                            ("piece p forth", False)):
            self.check_line(4, line, right)
        self.check_line(5, "piece p: forth", False)
        self.check_line(5, "piece q: p 3 times (p)", True)
        self.check_line(5, "piece q: q", False)
        self.check_line(5, "piece a: forth", True)

    def test_within_lines(self):
        told = self.check_line(5, "within 9 forth", True)
        self.assertEqual(told[4], (("forth", 9), ("mix", 2)))
        for line, right in (("within 0 forth", False), ("within 123456789 forth", True),
                            ("within 1234567890 forth", False), ("within 03 forth", False), ("within forth", False),
                            ("within 3 p", False), ("within 3  forth", False), ("within 3 forth ", False),
                            ("within 3 none", False), ("within 1 forth", True), ("within \u0663 forth", False)):
            self.check_line(5, line, right)
        self.check_line(6, "within 3 forth", False)
        self.check_line(6, "piece q: forth", False)
        self.check_line(6, "step new: all stand", False)

    def test_deeds(self):
        for line, right in (("  forth", True), ("  forth mix p", True), (" forth", False), ("forth", False),
                            ("   forth", False), ("  forth ", False), ("  forth  mix", False), ("  ", False),
                            ("  none", False), ("  a", False), ("  1 times (forth)", True),
                            ("  0 times (forth)", False),
                            ("  999999999 times (forth)", True), ("  1000000000 times (forth)", False),
                            ("  01 times (forth)", False), ("  2 times forth", False), ("  2 times(forth)", False),
                            ("  2 times ( forth)", False), ("  2 times (forth )", False), ("  2 times ()", False),
                            ("  2 times (forth))", False), ("  2 times ((forth))", False), ("  2 times (forth", False),
                            ("  2 times (forth | mix)", False), ("  times (forth)", False), ("  (forth)", False),
                            ("  ours (forth | mix)", True), ("  anybody (forth | mix | p)", True),
                            ("  ours (forth)", False), ("  ours ()", False), ("  ours (forth|mix)", False),
                            ("  ours (forth | mix) forth", True), ("  ours (forth | mix)forth", False),
                            ("  ours (forth | )", False), ("  ours ( | forth)", False), ("  any (forth | mix)", False),
                            ("  ours (forth | | mix)", False), ("  forth | mix", False), ("  ours forth | mix", False),
                            ("  ours (p | 2 times (p forth))", True), ("  ours (ours (forth | mix) | mix)", False),
                            ("  ours (forth ours (forth | mix) | 2 times (ours (forth | mix)))", False),
                            ("  ours (forth ours (forth | mix) | 2 times (mix ours (forth | mix)))", True),
                            ("  forth)", False), ("  )forth(", False), ("  2 times", False), ("  2", False),
                            ("  ours", False), ("  forth\tmix", False), ("  forth\u00a0mix", False)):
            self.check_line(8, line, right)

    def test_several_deeds_on_a_line(self):
        told = self.check_line(9, "  forth mix 2 times (p)", True)
        self.assertEqual(told[3][1:], (("step", "forth"), ("step", "mix"), ("times", 2, (("call", "p"),))))
        again = bad_line("\n".join(LINES[:8] + ["  forth", "  mix 2 times (p)"] + LINES[9:]))
        self.assertEqual(again, told)

    def test_other_line_ends(self):
        self.assertEqual(bad_line(TEXT.replace("\n", "\r\n")), 1)
        self.assertEqual(bad_line(TEXT + "\r"), len(LINES))


class Calls(unittest.TestCase):
    def test_every_row_of_arguments(self):
        for own in SOME[:40]:
            check_call(self, planlines.plan_text, {"plan": own})
            text = planlines.plan_text(own)
            self.assertEqual(planlines.plan_by(text=text), planlines.plan_by(text))
            self.assertEqual(planlines.plan_text(as_lists(own)), text)
        with self.assertRaises(BadLine):
            planlines.plan_by(text="plan")


if __name__ == "__main__":
    unittest.main()
