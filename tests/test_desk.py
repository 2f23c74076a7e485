"""Point 24: a desk."""

import random
import unittest
from fractions import Fraction

from nearercamps import desk
from nearercamps.errors import BadLine
from tests import plain_lines
from tests import plain_plans
from tests.plain_board import Plain, draw_deed
from tests.plain_desk import PlainDesk, first_bad, lots, request
from tests.support import junk

PLAN = """plan
 places a b c
 step forth: b from a; c from b
 step back: a from b; b from c
 plan
   ours (forth | back forth)
   2 times (back)
 again"""
WORDS = {"drop_step": "drop", "looked_at": "lookers", "dead_steps": "dead"}


def number_of(digits):
    """Return the number that digits tell, however many there are."""
    number = 0
    for at in range(0, len(digits), 1000):
        part = digits[at:at + 1000]
        number = number * 10 ** len(part) + int(part)
    return number


def answers(*lines):
    return desk.desk("\n".join(lines))


def line_of(rng, word, told):
    """Return the line of a request for a deed, in drawn terms; None if none tells it."""
    if word == "look":
        return f"look {told[0]} {told[1]} " + " ".join(map(str, told[2])) if told[2] else f"look {told[0]} {told[1]} x"
    if word == "share":
        return f"share {told[0]} " + ("free" if told[1] is None else rows_text(rng, told[1]))
    if word == "add_step":
        return "step " + lots(told[0][0])
    return " ".join([WORDS.get(word, word)] + [str(part) for part in told])


def rows_text(rng, shares):
    found = []
    for row in shares:
        times = rng.choice([1, 1, 3])
        found.append(" ".join(f"{top * times}/{bottom * times}" for top, bottom in row))
    return " | ".join(found)


def draw_request(rng, plainly):
    """Draw a request; plainly is a Plain of the desk's MACHINE."""
    n = plainly.n()
    kind = rng.random()
    if kind < 0.06:
        own = plain_plans.draw_plan(rng, 3, 2)
        return "plan\n " + plain_lines.draw_text(rng, own).replace("\n", "\n ")
    if kind < 0.3:
        return rng.choice(["steps", "stands", "life", "together", "always", "mark", "undo", "dead"])
    if kind < 0.4:
        state = " ".join(plain_steps_text(rng) for _ in range(n if rng.random() < 0.9 else n + 1))
        row, k = [], 0
        for _ in range(rng.randint(0, 6)):
            row.append(rng.randrange(len(plainly.now[1][k][1])))
            k = plainly.now[1][k][1][row[-1]][1]
        row = row + [9] if rng.random() < 0.1 else row
        return f"run {state}\n " + (" ".join(map(str, row)) or "-")
    if kind < 0.45:
        return rng.choice(["look 0 0 0 0", "look 0 0 1 x", "share 0 1", "share 0 1 | 1 |", "step 0", "step 0 | a",
                           "run 1",
                           "run 1  2\n 0", "run 1\n 0 ", "plan", "plan\n places a", "share 0 1/0", "look 7 0 x",
                           "mark me"])
    word, told = draw_deed(rng, plainly)
    return line_of(rng, word, told)


def plain_steps_text(rng):
    return rng.choice(["0", "1", "007/14", "3/2", "12", "1/" + "9" * 40])


class Drawn(unittest.TestCase):
    def test_each_reply_against_the_board(self):
        rng = random.Random(1)
        met = set()
        for _ in range(250):
            plainly, told, right = PlainDesk(), [], []
            while len(told) < 20:
                line = draw_request(rng, Plain(plainly.board.machine()))
                if request(line):
                    told.append(line)
                    right.append(plainly.reply(line))
                    met.add((line.split("\n")[0].split(" ")[0], right[-1] if "refused" in right[-1] else "well"))
            self.assertEqual(desk.desk("\n".join(told)), right, told)
            self.assertEqual(desk.desk(text="\n".join(told)), right)
        refused = {word for _, word in met}
        self.assertEqual(refused, {"well"} | {f"refused {name}" for name in
                                              "BadLine NoPlace NothingDone CanNot TooMuch Unfit".split()})
        self.assertEqual(len({word for word, reply in met if reply == "well"}), 21)

    def test_bad_lines_against_patterns(self):
        rng = random.Random(2)
        met = set()
        for _ in range(1500):
            told = [line for line in (draw_request(rng, Plain(PlainDesk().board.machine())) for _ in range(4))]
            text = "\n".join(told)
            for _ in range(rng.choice([0, 1, 1, 2])):
                at = rng.randint(0, len(text))
                change = rng.choice(["", " ", "\n", "\n ", "0", "x", "-", "12345678901", " plan", "life\n", "\t", "\r"])
                text = text[:at] + change + text[at + rng.choice([0, 0, 1]):]
            right = first_bad(text)
            if text and isinstance(right, int):
                with self.assertRaises(BadLine) as caught:
                    desk.desk(text)
                self.assertEqual(caught.exception.line, right, text)
                met.add(right)
            elif text:
                plainly = PlainDesk()
                self.assertEqual(desk.desk(text), [plainly.reply(line) for line in right], text)
                met.add(None)
        self.assertLessEqual({None, 1, 2, 3, 4}, met)


class Requests(unittest.TestCase):
    def test_drawn_and_bent_strings(self):
        rng = random.Random(3)
        right = 0
        for _ in range(4000):
            text = draw_request(rng, Plain(PlainDesk().board.machine()))
            for _ in range(rng.choice([0, 0, 1, 2])):
                at = rng.randint(0, len(text))
                change = rng.choice(["", "", " ", "\n", "\n ", "0", "x", "9", "\t", "\r", "\n x", "ours", "\u00e9"])
                text = text[:at] + change + text[at + rng.choice([0, 0, 1, 2]):]
            self.assertIs(desk.is_request(text), request(text), text)
            self.assertIs(desk.is_request(thing=text), request(text))
            right += request(text)
        self.assertGreater(right, 1000)

    def test_things_of_every_kind(self):
        for thing in junk() + [("life",), ["life"], b"life", "LIFE", "life ", " life", "life\n", "\nlife", "life\n "]:
            self.assertIs(desk.is_request(thing), False)
        self.assertIs(desk.is_request("life"), True)

    def test_by_shape_alone(self):
        for text, right in (("look 0 1 2", True), ("look 0 1 ", False), ("look 0 1  ", True),
                            ("look 0 1 x y | z", True),
                            ("look 0 1", False), ("look  0 1 2", False), ("look 01 1 2", False), ("look 0 0 \t", True),
                            ("look 123456789 0 0", True), ("look 1234567890 0 0", False), ("share 0 free", True),
                            ("share free", False), ("share 0  free", True), ("step  ", True), ("step ", False),
                            ("step", False),
                            ("step x", True), ("steps", True), ("steps ", False), ("steps 1", False), ("drop 0", True),
                            ("drop 00", False), ("drop -1", False), ("drop 0 1", False), ("drop", False),
                            ("own 3 ours", True),
                            ("own 3 any", True), ("own 3 mine", False), ("own 3 ours ", False), ("lead 0 0 0", True),
                            ("lead 0 0", False), ("cut 0 1", True), ("cut 0 1 2", False), ("insert 0 0 10", True),
                            ("back 1", True), ("back", False), ("undo", True), ("undo now", False), ("mark", True),
                            ("together", True), ("always", True), ("changed 0", True), ("changed", False),
                            ("lookers 1", True), ("dead", True), ("stands", True), ("life", True),
                            ("run 1 2\n -", True),
                            ("run 1 2", False), ("run \n -", False), ("run  \n -", True), ("run 1\n 0\n 1", True),
                            ("run 1\n ", True), ("run 1\n0", False), ("run x\n y", True), ("plan\n ", True),
                            ("plan", False),
                            ("plan \n places", False), ("plan\n x\n\n y", False), ("plan\n x\n  y", True),
                            ("dead\n x", False), ("drop \u0663", False), ("", False), (" ", False), ("drop\t0", False),
                            ("drop 0\r", False), ("look 0 1 \u00e9", True)):
            self.assertIs(desk.is_request(text), right, text)
            self.assertIs(request(text), right, text)


class Replies(unittest.TestCase):
    def test_nothing(self):
        self.assertEqual(desk.desk(""), [])

    def test_bad_lines(self):
        for text, line in (("\n", 1), (" ", 1), (" life", 1), ("life\n", 2), ("life\n\nlife", 2),
                           ("life\nplan\nlife", 2),
                           ("life\nrun 0\n 0\nlife\n 0", 4), ("nothing", 1), ("life\nplan\n a\n b\nrun 1", 5),
                           ("undo\nundo\nlive", 3), ("steps\n dead", 1), (" x\nnothing", 1)):
            with self.assertRaises(BadLine) as caught:
                desk.desk(text)
            self.assertEqual(caught.exception.line, line, text)

    def test_a_refused_request_changes_nothing(self):
        told = [PLAN, "steps", "stands"]
        first = answers(*told)
        long = "plan\n places a\n step s: all stand\n plan\n   61 times (s)\n again"
        for line in ("look 0 0 0 0", "look 0 0 x", "look 2 0 0", "look 0 3 0", "share 0 1", "share 0 1 | 1 | 1/2",
                     "share 0 1 | 1 | x", "step 0 | 1", "drop 0", "drop 7", "own 9 any", "lead 0 0 2", "lead 1 0 1",
                     "cut 3 0",
                     "cut 0 2", "insert 0 2 0", "back 0", "plan\n places", long, "undo", "run 1\n 0", "changed 0"):
            again = answers(*(told + [line, "steps", "stands", "undo", "mark"]))
            self.assertEqual(again[:3], first)
            self.assertTrue(again[3].startswith("refused "), line)
            self.assertEqual(again[4:], first[1:] + ["refused NothingDone", "0"])

    def test_errors_in_their_order(self):
        for line, name in (("look 9 9 x", "BadLine"), ("look 9 9 2 1", "NoPlace"), ("look 0 0 2 1", "Unfit"),
                           ("look 0 0 1  2", "BadLine"), ("look 0 0 01", "BadLine"), ("look 0 0 0 ", "BadLine"),
                           ("look 0 0  0", "BadLine"), ("look 0 0 1234567890", "BadLine"),
                           ("look 0 0 123456789", "Unfit"),
                           ("share 9 free ", "BadLine"), ("share 9 free", "NoPlace"), ("share 9 1 | 1", "NoPlace"),
                           ("share 0 1 | 1", "Unfit"), ("share 0 1 | 1 | 1 | 1", "Unfit"),
                           ("share 0 1 | 1|1", "BadLine"),
                           ("share 0 0 | 1 | 1", "Unfit"), ("share 0 1/0 | 1 | 1", "BadLine"),
                           ("share 0 1 1 | 1 | 1", "Unfit"),
                           ("share 0 -1 | 1 | 1", "BadLine"), ("step 0 | 1", "Unfit"), ("step 0 | 1 | 2 | 3", "Unfit"),
                           ("step 0 | 1 | 3", "Unfit"), ("step 0 | 1 | ", "BadLine"), ("step 0 | 1 | x", "BadLine"),
                           ("run 1 2\n x", "BadLine"), ("run 1 2\n 0\n 0", "BadLine"), ("run 1 2\n ", "BadLine"),
                           ("run 1 2\n 9", "Unfit"), ("run 1 2 3\n 9", "NoPlace"), ("run 1 2 3 4\n -", "Unfit"),
                           ("run 1 2 x\n -", "BadLine"), ("run 1 2 1/0\n -", "BadLine"), ("run 1 2 3\n - ", "BadLine"),
                           ("run 1 2 3\n 0  0", "BadLine"), ("run 1 2 3 \n -", "BadLine"),
                           ("run 1 2 3\n --", "BadLine"),
                           ("run 1 2 3\n -\n -", "BadLine"), ("plan\n ", "BadLine"), ("plan\n places a", "BadLine"),
                           ("lead 9 9 9", "NoPlace"), ("lead 1 0 1", "CanNot"), ("lead 1 0 2", "Unfit"),
                           ("cut 1 0", "CanNot"),
                           ("drop 1", "CanNot"), ("changed 0", "NoPlace"), ("lookers 3", "NoPlace"),
                           ("undo", "NothingDone"),
                           ("plan\n places a\n step s: all stand\n plan\n   61 times (s)\n again", "TooMuch"),
                           ("plan\n places a\n step s: all stand\n step t: all stand\n within 1 t\n plan\n   s\n again",
                            "CanNot")):
            self.assertEqual(answers(PLAN, line)[1], "refused " + name, line)

    def test_quotients_of_forty_and_more_digits(self):
        for digits, right in ((40, True), (41, False)):
            long = "1" + "0" * (digits - 1)
            told = answers("run " + long + "\n -", f"run 1/{long}\n -", "run " + "0" * (digits - 1) + "7\n 0")
            self.assertEqual(told, [long, "1/" + long, "7\n7"] if right else ["refused BadLine"] * 3)
            self.assertEqual(answers(f"share 0 {long}/{long}")[0], "done" if right else "refused BadLine")
        self.assertEqual(answers("run 0/5\n -", "run 6/4\n -", "run 1/00\n -"), ["0", "3/2", "refused BadLine"])

    def test_very_long_numbers_are_written_down(self):
        bottom = 10 ** 39 + 3
        shares = f"1/{bottom} {bottom - 1}/{bottom}"
        told = answers("plan\n places a b\n step s: a from a b; b from a b\n plan\n   s\n again",
                       f"share 0 {shares} | 1/3 2/3", "run 1 0\n " + " ".join(["0"] * 300))
        self.assertEqual(told[:2], ["done", "done"])
        lines = told[2].split("\n")
        self.assertEqual(len(lines), 301)
        self.assertEqual(lines[1], f"1/{bottom} 1/3")
        self.assertGreater(len(lines[-1]), 20000)
        top, bottom_text = lines[2].split(" ")[0].split("/")
        # (1/b) (1/b) + ((b - 1)/b) (1/3)
        self.assertEqual(int(top) * 3 * bottom ** 2, int(bottom_text) * (3 + (bottom - 1) * bottom))
        held = [Fraction(1), Fraction(0)]
        for _ in range(300):
            held = [(held[0] + (bottom - 1) * held[1]) / bottom, (held[0] + 2 * held[1]) / 3]
        self.assertEqual([tuple(map(number_of, part.split("/"))) for part in lines[-1].split(" ")],
                         [(number.numerator, number.denominator) for number in held])

    def test_replies_in_words(self):
        told = answers(PLAN, "mark", "mark", "dead", "step 0 | 1 | 0 2", "dead", "steps", "stands", "own 0 any",
                       "changed 0",
                       "together", "always", "life", "insert 3 0 2", "lead 4 0 0", "cut 4 1", "lookers 0", "lookers 1",
                       "back 1", "stands", "undo", "run 1/2 0 3\n 0 0 0", "look 0 1 1 2", "share 0 1 | 1/2 1/2 | 1",
                       "steps")
        steps = "0 | 0 | 1\n1 | 2 | 2\n0 | 1 | 0 2"
        self.assertEqual(told, ["done", "0", "1", "-", "2", "2", steps, "ours 0-2 1-1\nany 0-2\nany 1-3\nany 1-0",
                                "done",
                                "-", "yes", "yes", "3", "4", "1", "done", "0 2", "0 1", "done",
                                "ours 0-2 1-1\nany 0-2\nany 1-3\nany 1-0", "done", "1/2 0 3\n1/2 1/2 0\n1/2 0 0\n0 0 0",
                                "done", "done", "0 | 1 2 | 1 = 1 | 1/2 1/2 | 1\n1 | 2 | 2\n0 | 1 | 0 2"])

    def test_a_new_plan_is_a_new_board(self):
        told = answers("mark", "own 0 ours", PLAN, "undo", "back 0", "mark")
        self.assertEqual(told, ["0", "done", "done", "refused NothingDone", "refused NoPlace", "0"])

    def test_life(self):
        self.assertEqual(answers("life", "plan\n places a b\n step s: a from b\n plan\n   s\n again", "life"),
                         ["0", "done", "0"])
        swap = "plan\n places a b\n step s: a from b; b from a\n step t: a from b\n plan\n   ours (s | t)\n again"
        self.assertEqual(answers(swap, "life", "together", "always", "changed 0"),
                         ["done", "for ever", "yes", "no", "refused NoPlace"])

    def test_the_list_is_new(self):
        first = answers("life")
        first.append("mine")
        self.assertEqual(answers("life"), ["0"])


if __name__ == "__main__":
    unittest.main()
