"""NAMES of places, steps and pieces."""

from nearercamps.plain import is_filled_tuple

LETTERS = "abcdefghijklmnopqrstuvwxyz"
MOST_LETTERS = 8
WORDS = ("places", "step", "from", "all", "stand", "piece", "within", "plan", "again", "anybody", "ours", "times")


def is_name(thing):
    """Return whether thing is a NAME."""
    if not isinstance(thing, str) or thing == "" or len(thing) > MOST_LETTERS or thing in WORDS:
        return False
    return all([sign in LETTERS for sign in thing])


def are_unlike(names):
    """Return whether no two of names are equal."""
    return len(set(names)) == len(names)


def are_names(thing):
    """Return whether thing is a tuple, not (), of unlike NAMES."""
    return is_filled_tuple(thing) and all([is_name(name) for name in thing]) and are_unlike(thing)


def first_names(many):
    """Return the list of the first so many NAMES, shorter ones first."""
    found = []
    ends = [""]
    while len(found) < many:
        ends = [end + letter for end in ends for letter in LETTERS]
        found = found + [name for name in ends if name not in WORDS]
    return found[:many]
