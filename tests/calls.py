"""Point 2 for one call: by position, by names, with lists for tuples; nothing passed in changes, lists are new."""

import copy

from tests.support import as_lists, as_mixed, has_lists


def outcome(function, *values, **named):
    """Return the result of a call, or the class and the attributes of the error that it raises."""
    try:
        return ("result", function(*values, **named))
    except (LookupError, ValueError) as error:
        return ("error", type(error), vars(error))


def shaped(named, shape):
    """Return the arguments in this shape, but for a thing, which stays as it is."""
    return {name: value if name == "thing" else shape(value) for name, value in named.items()}


def check_call(test, function, named):
    """Hold one call, its arguments told by their names in order, against point 2; return its outcome."""
    told = outcome(function, *named.values())
    shapes = [dict, lambda values: shaped(values, as_lists), lambda values: shaped(values, as_mixed)]
    shapes.append(lambda values: shaped(values, lambda value: as_mixed(value, 1)))
    for shape in shapes:
        values = shape(named)
        kept = copy.deepcopy(values)
        test.assertEqual(repr(outcome(function, **values)), repr(told))
        test.assertEqual(repr(outcome(function, *values.values())), repr(told))
        test.assertEqual(repr(values), repr(kept))
    if told[0] == "result" and isinstance(told[1], list):
        check_new_list(test, function, named)
    elif told[0] == "result":
        test.assertFalse(has_lists(told[1]))
    return told


def check_new_list(test, function, named):
    """Hold that a returned list belongs to the caller and holds no further lists."""
    first = function(**named)
    kept = copy.deepcopy(first)
    test.assertFalse(any(has_lists(part) for part in first))
    first.append("mine")
    first.reverse()
    second = function(**named)
    test.assertEqual(repr(second), repr(kept))
    test.assertIsNot(second, first)
