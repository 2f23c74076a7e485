"""What kinds of values things are, and tuples in the place of lists."""


def is_number(thing):
    """Return whether thing is an int that is not a bool."""
    return isinstance(thing, int) and not isinstance(thing, bool)


def is_number_below(thing, limit):
    """Return whether thing is a number from 0 to one less than limit."""
    return is_number(thing) and 0 <= thing < limit


def is_tuple_of(thing, count):
    """Return whether thing is a tuple of so many things."""
    return isinstance(thing, tuple) and len(thing) == count


def is_filled_tuple(thing):
    """Return whether thing is a tuple, not ()."""
    return isinstance(thing, tuple) and len(thing) > 0


def is_rising(values):
    """Return whether each of values is less than the next one."""
    return all([values[k - 1] < values[k] for k in range(1, len(values))])


def frozen(value):
    """Return value with tuples in the place of its lists, at any depth."""
    if isinstance(value, (list, tuple)):
        return tuple([frozen(part) for part in value])
    return value


def ascending(values):
    """Return values as an ascending tuple, each once."""
    return tuple(sorted(set(values)))
