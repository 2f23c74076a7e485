"""Requests to a desk: their lines and texts by shape, and what stands in them."""

from nearercamps.figures import is_short_number, quotient_by

# What stands behind the word of a request: n for a number, o for an owner, r for what fills the rest of the line.
SHAPES = {
    "plan": "",
    "look": "nnr",
    "share": "nr",
    "step": "r",
    "drop": "n",
    "own": "no",
    "lead": "nnn",
    "cut": "nn",
    "insert": "nnn",
    "back": "n",
    "undo": "",
    "mark": "",
    "together": "",
    "always": "",
    "changed": "n",
    "lookers": "n",
    "dead": "",
    "steps": "",
    "stands": "",
    "life": "",
    "run": "r",
}
WITH_TEXT = ("plan", "run")


def is_fit(kind, part):
    """Return whether part is what kind says."""
    if kind == "n":
        return is_short_number(part)
    if kind == "o":
        return part in ("ours", "any")
    return part != ""


def words_of(line):
    """Return the list of the word of a request and what stands behind it, None if its line is that of none."""
    word = line.partition(" ")[0]
    if word not in SHAPES:
        return None
    kinds = SHAPES[word]
    words = line.split(" ", len(kinds))
    if words[0] != word or len(words) != len(kinds) + 1:
        return None
    return words if all([is_fit(kind, part) for kind, part in zip(kinds, words[1:])]) else None


def gathered(text):
    """Return the list of triples (number of its line, line, list of the lines of its text) of all requests of text.

    A first line that begins with a blank counts as one.
    """
    found = []
    for k, line in enumerate(text.split("\n")):
        if line.startswith(" ") and found != []:
            found[-1][2].append(line[1:])
        else:
            found.append((k + 1, line, []))
    return found


def is_right(line, lines):
    """Return whether this is the line of a request, and these are the lines of its text."""
    words = words_of(line)
    return words is not None and (words[0] in WITH_TEXT) == (lines != [])


def all_by(parts, told_by):
    """Return the tuple of what told_by tells of parts, None if it is None of some."""
    found = tuple([told_by(part) for part in parts])
    return None if None in found else found


def short_number_by(text):
    """Return the number that text tells as a request does, None if it tells none."""
    return int(text) if is_short_number(text) else None


def lot_by(text):
    """Return the tuple of numbers that text tells, None if it tells none."""
    return all_by(text.split(" "), short_number_by)


def lots_by(text):
    """Return the tuple of tuples of numbers that text tells, None if it tells none."""
    return all_by(text.split(" | "), lot_by)


def quotients_by(text):
    """Return the tuple of FRACTIONS that text tells, None if it tells none."""
    return all_by(text.split(" "), quotient_by)


def rows_by(text):
    """Return the tuple of tuples of FRACTIONS that text tells, None if it tells none."""
    return all_by(text.split(" | "), quotients_by)


def row_by(text):
    """Return the row that text tells, None if it tells none."""
    return () if text == "-" else lot_by(text)
