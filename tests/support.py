"""What several tests use: examples as they stand, lists for tuples, things of every kind."""

import ast
import os

from nearercamps import errors

EXAMPLES = os.path.join(os.path.dirname(os.path.abspath(__file__)), "examples")


def read_examples(name):
    """Return the pairs (code, expected line or None) of a file of examples."""
    with open(os.path.join(EXAMPLES, name), encoding="utf-8") as held:
        lines = held.read().splitlines()
    pairs = []
    for line in lines:
        if line.startswith(">>> "):
            pairs.append((line[4:], None))
        else:
            code, expected = pairs.pop()
            assert expected is None, "one line of result for each line of code"
            pairs.append((code, line))
    return pairs


def told_error(error):
    """Return an error as the document writes it behind raises."""
    inner = ", ".join(f"{name}={value!r}" for name, value in sorted(vars(error).items()))
    return f"raises {type(error).__name__}({inner})"


def run_example(code, space):
    """Run one line of an example; return the repr of its result, None for an assignment, or the error it raises."""
    tree = ast.parse(code)
    try:
        if isinstance(tree.body[0], ast.Expr):
            return repr(eval(code, space))
        exec(code, space)
        return None
    except (LookupError, ValueError) as error:
        assert type(error).__module__ == errors.__name__, error
        return told_error(error)


def as_lists(value):
    """Return value with lists in the place of its tuples, at any depth."""
    if isinstance(value, (list, tuple)):
        return [as_lists(part) for part in value]
    return value


def as_mixed(value, turn=0):
    """Return value with lists and tuples taking turns by depth; the outermost one is a list for an even turn."""
    if isinstance(value, (list, tuple)):
        parts = [as_mixed(part, turn + 1) for part in value]
        return parts if turn % 2 == 0 else tuple(parts)
    return value


def has_lists(value):
    """Return whether there is a list in value, at any depth."""
    if isinstance(value, list):
        return True
    return isinstance(value, tuple) and any(has_lists(part) for part in value)


def nested(depth, kind=tuple):
    """Return an empty tuple or list within others, so many levels deep."""
    value = kind()
    for _ in range(depth - 1):
        value = kind([value])
    return value


def junk():
    """Return a list of things of every kind that a thing may be."""
    small = [True, False, None, 0, 1, -1, 2, 7, 10 ** 30, -10 ** 40, 7 ** 6000, "", "ours", "any", "0", "x" * 5000]
    flat = [(), [], (0,), [0], (1,), (0, 1), [0, 1], (1, 0), (0, 0), (True,), (False, True), (None,), ("",), ("a", "b")]
    deep = [((0,),), [(0,)], ([0],), ((0,), (1,)), ((1,), (0,)), [(0,), (1,)], ((0,), [1]), ((), ()), ((0, 1), ())]
    more = [((0,), None), (((0,),), None), ((((0,),), None),), ((0, 1), (1, 1)), ((1, 2), (1, 2)), ((2, 4), (1, 2))]
    tall = [nested(100), nested(100, list), (0,) * 3000, tuple(range(3000)), [[]] * 40, ((),) * 40, (("ours", ()),)]
    return small + flat + deep + more + tall


def replaced(thing, at, part):
    """Return the tuple thing with part in the place at."""
    return thing[:at] + (part,) + thing[at + 1:]


STRANGE = (True, False, None, "", "a", "ours", (), [], 10 ** 31, -1, ((),), (0, 1), [0])


def with_one_flaw(thing):
    """Yield things that are unlike thing in one of its parts; some of them may be as right as it."""
    for strange in STRANGE:
        yield strange
    if isinstance(thing, bool) or thing is None:
        return
    if isinstance(thing, int):
        yield from (thing + 1, thing - 1, -thing, str(thing), (thing,), thing == 1)
    elif isinstance(thing, str):
        yield from (thing + "s", thing[1:], thing.upper(), "any", "ours")
    elif isinstance(thing, tuple):
        yield list(thing)
        yield (thing,)
        yield thing + (0,)
        yield thing[::-1]
        for at in range(len(thing)):
            yield thing[:at] + thing[at + 1:]
            yield thing[:at] + (thing[at],) + thing[at:]
            if at > 0:
                yield thing[:at - 1] + (thing[at], thing[at - 1]) + thing[at + 1:]
            for part in with_one_flaw(thing[at]):
                yield replaced(thing, at, part)


def check_kind(test, told, plainly, right):
    """Hold that told is True for right, and for it with one flaw, and for junk, exactly what plainly says."""
    test.assertIs(told(right), True)
    for thing in junk() + list(with_one_flaw(right)):
        if told(thing) is not plainly(thing):
            test.fail(f"{plainly(thing)} expected for {thing!r}")
