"""Numbers and FRACTIONS in figures."""

from nearercamps.quotients import lowest

FIGURES = "0123456789"
MOST_DIGITS = 40
MOST_FIGURES = 9
LONG_DIGITS = 64
LONG = 10 ** 64


def are_figures(text, most):
    """Return whether text is one figure or more, at most so many."""
    return 1 <= len(text) <= most and all([sign in FIGURES for sign in text])


def is_short_number(text):
    """Return whether text is 1 to 9 figures, the first of several not 0."""
    return are_figures(text, MOST_FIGURES) and (text == "0" or text[0] != "0")


def quotient_by(text):
    """Return the FRACTION that text, digits or digits/digits, tells, None if it tells none."""
    top, line, bottom = text.partition("/")
    if line == "":
        bottom = "1"
    if not are_figures(top, MOST_DIGITS) or not are_figures(bottom, MOST_DIGITS) or int(bottom) == 0:
        return None
    return lowest(int(top), int(bottom))


def number_text(number):
    """Return what tells a number from 0."""
    # Python refuses to write down very long numbers at once.
    parts = []
    while number >= LONG:
        number, part = divmod(number, LONG)
        parts.append(str(part).zfill(LONG_DIGITS))
    return str(number) + "".join(parts[::-1])


def quotient_text(number):
    """Return what tells a FRACTION from 0, /1 left out."""
    top, bottom = number
    return number_text(top) if bottom == 1 else f"{number_text(top)}/{number_text(bottom)}"
