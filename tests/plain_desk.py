"""Plain reading for section 24: requests by patterns, and replies by the methods of a Board."""

import re
from fractions import Fraction

from nearercamps import errors
from nearercamps.board import Board
from nearercamps.planlines import plan_by
from nearercamps.plans import machine_of
from tests import plain_claims
from tests import plain_machines as plain
from tests import plain_steps

NUMBER = "(?:0|[1-9][0-9]{0,8})"
QUOTIENT = "[0-9]{1,40}(?:/[0-9]{1,40})?"
LINES = {"look": f"{NUMBER} {NUMBER} [^\n]+", "share": f"{NUMBER} [^\n]+", "step": "[^\n]+", "drop": NUMBER,
         "own": f"{NUMBER} (?:ours|any)", "lead": f"{NUMBER} {NUMBER} {NUMBER}", "cut": f"{NUMBER} {NUMBER}",
         "insert": f"{NUMBER} {NUMBER} {NUMBER}", "back": NUMBER, "changed": NUMBER, "lookers": NUMBER, "run": "[^\n]+"}
BARE = ["plan", "undo", "mark", "together", "always", "dead", "steps", "stands", "life"]
PATTERNS = [word + " " + rest for word, rest in LINES.items()] + BARE


def request(text):
    """Return whether text is one request by its shape alone."""
    line, feed, rest = text.partition("\n")
    if not any(re.fullmatch(pattern, line) for pattern in PATTERNS):
        return False
    if line == "plan" or line.startswith("run "):
        return feed == "\n" and all(part[:1] == " " for part in rest.split("\n"))
    return feed == ""


def first_bad(text):
    """Return the list of the requests of a text, or the number of the first line of one that is none."""
    found = []
    for k, line in enumerate(text.split("\n"), 1):
        if line[:1] == " " and found:
            found[-1][1] += "\n" + line
        else:
            found.append([k, line])
    for k, told in found:
        if not request(told):
            return k
    return [told for _, told in found]


def numbers(text):
    if not re.fullmatch(f"{NUMBER}(?: {NUMBER})*", text):
        raise errors.BadLine(0)
    return tuple(map(int, text.split(" ")))


def quotients(text):
    if not re.fullmatch(f"{QUOTIENT}(?: {QUOTIENT})*", text) or re.search("/0+(?: |$)", text):
        raise errors.BadLine(0)
    return tuple(plain_steps.pair_of(Fraction(*map(int, part.split("/")))) for part in text.split(" "))


def show(pair):
    return str(Fraction(*pair))


def rows(shares):
    return " | ".join(" ".join(map(show, row)) for row in shares)


def lots(looks):
    return " | ".join(" ".join(map(str, lot)) for lot in looks)


class PlainDesk:
    """Replies by the methods of a Board."""

    def __init__(self):
        self.board = Board((((((0,),), None),), (("any", ((0, 0),)),)))

    def reply(self, told):
        try:
            return self.answer(*told.split("\n")[0].split(" ", 1), lines=told.split("\n")[1:])
        except (LookupError, ValueError) as error:
            return "refused " + type(error).__name__

    def answer(self, word, rest="", lines=()):
        text = "\n".join(line[1:] for line in lines)
        board = self.board
        if word == "plan":
            self.board = Board(machine_of(plan_by(text)))
            return "done"
        if word == "look":
            step, place, lot = rest.split(" ", 2)
            lot = numbers(lot)
            return self.show(board.look(int(step), int(place), lot))
        if word == "share":
            step, told = rest.split(" ", 1)
            shares = None if told == "free" else tuple(map(quotients, told.split(" | ")))
            return self.show(board.share(int(step), shares))
        if word == "step":
            return self.show(board.add_step((tuple(map(numbers, rest.split(" | "))), None)))
        if word == "own":
            stand, owner = rest.split(" ")
            return self.show(board.own(int(stand), owner))
        if word == "run":
            return self.run(quotients(rest), () if text == "-" else numbers(text))
        if word in ("steps", "stands", "life"):
            return getattr(self, word)()
        name = {"drop": "drop_step", "lookers": "looked_at", "dead": "dead_steps"}.get(word, word)
        return self.show(getattr(board, name)(*map(int, rest.split(" ") if rest else [])))

    def show(self, value):
        if type(value) is tuple:
            return " ".join(map(str, value)) or "-"
        if value is None or type(value) is bool:
            return {None: "done", True: "yes", False: "no"}[value]
        return str(value)

    def steps(self):
        return "\n".join(lots(looks) + (" = " + rows(shares) if shares else "")
                         for looks, shares in self.board.machine()[0])

    def stands(self):
        return "\n".join(owner + "".join(f" {step}-{end}" for step, end in arrows)
                         for owner, arrows in self.board.machine()[1])

    def life(self):
        free = plain.handed(self.board.machine(), ())
        if not plain.together(free):
            return "for ever"
        return "0" if len(free[0][0][0]) == 1 else str(plain_claims.window(free) - 1)

    def run(self, state, row):
        steps, stands = self.board.machine()
        held, k, lines = [Fraction(*pair) for pair in state], 0, []
        if len(held) != len(steps[0][0]):
            raise errors.Unfit()
        ways = []
        for arrow in row:
            if arrow >= len(stands[k][1]):
                raise errors.NoPlace(arrow)
            step, k = stands[k][1][arrow]
            ways.append(steps[step])
        lines.append(held)
        for looks, shares in ways:
            even = tuple(((1, len(lot)),) * len(lot) for lot in looks)
            lines.append(plain_steps.move(looks, shares or even, lines[-1]))
        return "\n".join(" ".join(map(str, line)) for line in lines)
