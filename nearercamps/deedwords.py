"""DEEDS as the lines of a text tell them."""

from nearercamps.deeds import OWNERS, are_deeds
from nearercamps.figures import is_short_number


def deed_text(deed):
    """Return what tells one of DEEDS."""
    if deed[0] in ("step", "call"):
        return deed[1]
    if deed[0] == "times":
        return f"{deed[1]} times ({deeds_text(deed[2])})"
    return f"{deed[0]} (" + " | ".join([deeds_text(branch) for branch in deed[1]]) + ")"


def deeds_text(deeds):
    """Return what tells deeds."""
    return " ".join([deed_text(deed) for deed in deeds])


def number_by(text):
    """Return the number from 1 that text tells, None if it tells none."""
    return int(text) if is_short_number(text) and text != "0" else None


class DeedReader:
    """What has been read of deeds, word by word; steps and begins have the NAMES of STEPS and pieces.

    open_deeds has, for all that is not closed yet, the outermost first, its head and its branches, lists of DEEDS.
    """

    def __init__(self, steps, begins):
        self.steps = steps
        self.begins = begins
        self.open_deeds = [(("all",), [[]])]

    def take(self, deed):
        """Put deed behind those of the innermost branch."""
        self.open_deeds[-1][1][-1].append(deed)

    def go_into(self, head):
        """Go into a deed that begins with head."""
        self.open_deeds.append((head, [[]]))

    def close(self):
        """Go out of the innermost deed."""
        head, branches = self.open_deeds.pop()
        inner = tuple([tuple(branch) for branch in branches])
        self.take(head + (inner if head[0] in OWNERS else inner[0],))

    def read(self, words):
        """Read the first of words, maybe more; return how many, 0 if they can't stand there.

        Brackets are taken for granted.
        """
        word = words[0]
        if word in self.steps or word in self.begins:
            self.take(("step" if word in self.steps else "call", word))
            return 1
        if word in OWNERS:
            self.go_into((word,))
            return 2
        if number_by(word) is not None:
            self.go_into(("times", number_by(word)))
            return 3
        if word == "|":
            self.open_deeds[-1][1].append([])
            return 1
        if word == ")" and len(self.open_deeds) > 1:
            self.close()
            return 1
        return 0


def deeds_by(text, steps, begins):
    """Return the deeds that text tells, None if it tells none; begins tells which pieces begin with a move."""
    reader = DeedReader(steps, begins)
    words = text.replace("(", " ( ").replace(")", " ) ").split()
    while words != []:
        many = reader.read(words)
        if many == 0:
            return None
        words = words[many:]
    deeds = tuple(reader.open_deeds[0][1][0])
    # Deeds are told by one text alone: blanks and brackets that are missing or too many show here.
    return deeds if are_deeds(deeds, steps, begins) and deeds_text(deeds) == text else None
