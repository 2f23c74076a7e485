"""A desk: requests in lines, and replies."""

from nearercamps.board import Board
from nearercamps.errors import BadLine, CanNot, NoPlace, NothingDone, TooMuch, Unfit
from nearercamps.figures import quotient_text
from nearercamps.machines import places_of
from nearercamps.owners import handed_over
from nearercamps.planlines import plan_by
from nearercamps.plans import machine_of
from nearercamps.requests import gathered, is_right, lot_by, lots_by, quotients_by, row_by, rows_by, words_of
from nearercamps.runs import run_even
from nearercamps.windows import longest_life

ALONE = (((((0,),), None),), (("any", ((0, 0),)),))


def read_well(found):
    """Return what was found in a part of a request. Raises BadLine if it is None."""
    if found is None:
        raise BadLine(1)
    return found


def reply_text(value):
    """Return the reply for what a deed or an answer returns."""
    if value is None:
        return "done"
    if isinstance(value, bool):
        return "yes" if value else "no"
    if isinstance(value, tuple):
        return "-" if value == () else " ".join([str(part) for part in value])
    return str(value)


def numbers_text(numbers):
    """Return what tells FRACTIONS."""
    return " ".join([quotient_text(number) for number in numbers])


def step_line(step):
    """Return the line that tells a STEP."""
    looks, shares = step
    line = " | ".join([" ".join([str(place) for place in lot]) for lot in looks])
    if shares is None:
        return line
    return line + " = " + " | ".join([numbers_text(row) for row in shares])


def stand_line(stand):
    """Return the line that tells a stand."""
    owner, arrows = stand
    return owner + " " + " ".join([f"{step}-{end}" for step, end in arrows])


class Desk:
    """A Board, and what requests make of it."""

    def __init__(self):
        self.board = Board(ALONE)

    def reply(self, words, lines):
        """Return the reply to a request, told by its words and the lines of its text."""
        try:
            return self.told(words, "\n".join(lines))
        except BadLine:
            return "refused BadLine"
        except NoPlace:
            return "refused NoPlace"
        except NothingDone:
            return "refused NothingDone"
        except CanNot:
            return "refused CanNot"
        except TooMuch:
            return "refused TooMuch"
        except Unfit:
            return "refused Unfit"

    def told(self, words, text):
        """Return the reply to a request that is not refused."""
        word, rest = words[0], words[-1]
        if word == "plan":
            self.board = Board(machine_of(plan_by(text)))
            return "done"
        if word == "run":
            return self.run_lines(read_well(quotients_by(rest)), read_well(row_by(text)))
        if word == "steps":
            return "\n".join([step_line(step) for step in self.board.machine()[0]])
        if word == "stands":
            return "\n".join([stand_line(stand) for stand in self.board.machine()[1]])
        if word == "life":
            life = longest_life(handed_over(self.board.machine(), ()))
            return "for ever" if life is None else str(life)
        if word in ("look", "share", "step"):
            return reply_text(self.step_deed(word, [int(part) for part in words[1:-1]], rest))
        if word == "own":
            return reply_text(self.board.own(int(words[1]), rest))
        return reply_text(self.by_numbers(word, [int(part) for part in words[1:]]))

    def run_lines(self, state, row):
        """Return the lines of the STATES of a run."""
        machine = self.board.machine()
        if len(state) != places_of(machine):
            raise Unfit()
        return "\n".join([numbers_text(numbers) for numbers in run_even(machine, row, state)])

    def step_deed(self, word, numbers, rest):
        """Do a deed about the looks or the shares of a STEP; return what it returns."""
        if word == "look":
            return self.board.look(numbers[0], numbers[1], read_well(lot_by(rest)))
        if word == "step":
            return self.board.add_step((read_well(lots_by(rest)), None))
        return self.board.share(numbers[0], None if rest == "free" else read_well(rows_by(rest)))

    def by_numbers(self, word, numbers):
        """Do a deed, or answer, by numbers alone; return what the Board returns."""
        if word in ("lead", "cut", "insert"):
            return self.arrow_deed(word, numbers)
        if word == "drop":
            return self.board.drop_step(numbers[0])
        if word == "back":
            return self.board.back(numbers[0])
        if word == "changed":
            return self.board.changed(numbers[0])
        if word == "lookers":
            return self.board.looked_at(numbers[0])
        if word == "undo":
            return self.board.undo()
        if word == "mark":
            return self.board.mark()
        if word == "together":
            return self.board.together()
        return self.board.always() if word == "always" else self.board.dead_steps()

    def arrow_deed(self, word, numbers):
        """Do a deed about an arrow; return what it returns."""
        if word == "lead":
            return self.board.lead(numbers[0], numbers[1], numbers[2])
        if word == "cut":
            return self.board.cut(numbers[0], numbers[1])
        return self.board.insert(numbers[0], numbers[1], numbers[2])


def desk(text):
    """Return the list of the replies to the requests of text."""
    if text == "":
        return []
    requests = gathered(text)
    for number, line, lines in requests:
        if not is_right(line, lines):
            raise BadLine(number)
    own = Desk()
    return [own.reply(words_of(line), lines) for _, line, lines in requests]


def is_request(thing):
    """Return whether thing is a string that is one request by its shape alone."""
    if not isinstance(thing, str):
        return False
    requests = gathered(thing)
    return len(requests) == 1 and is_right(requests[0][1], requests[0][2])
