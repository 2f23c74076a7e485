"""Which stands go alike.

All rings lead through the beginning, so stands are told apart from the last ones back to it in one pass.
"""

from nearercamps.plain import ascending
from nearercamps.ways import inner_order


def numbers_of(values, known):
    """Return the list of the numbers that known gives to values; new ones get the next number there."""
    numbers = []
    for value in values:
        if value not in known:
            known[value] = len(known)
        numbers.append(known[value])
    return numbers


def kind_of_stand(stand, step_kinds, stand_kinds):
    """Return what a stand has in common with those that go alike with it, its ends being told by their kinds."""
    owner, arrows = stand
    going = ascending([(step_kinds[step], stand_kinds[end]) for step, end in arrows])
    if len(going) == 1:
        return ("", going)
    return (owner, going)


def inner_kinds(stands, step_kinds, known):
    """Return a dict of the kind of each stand, the beginning's being 0; known has the numbers of other kinds."""
    kinds = {0: 0}
    for stand in reversed(inner_order(stands)):
        kinds[stand] = 1 + numbers_of([kind_of_stand(stands[stand], step_kinds, kinds)], known)[0]
    return kinds


def begin_kind(machine, known_steps, known_kinds):
    """Return what the beginning has in common with the beginnings that go alike with it."""
    steps, stands = machine
    step_kinds = numbers_of(steps, known_steps)
    return kind_of_stand(stands[0], step_kinds, inner_kinds(stands, step_kinds, known_kinds))
