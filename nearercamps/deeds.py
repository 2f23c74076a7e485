"""DEEDS of PLANS: what they are, how many stands they have, and which ones."""

from nearercamps.machines import each_once
from nearercamps.plain import is_filled_tuple, is_number, is_tuple_of

OWNERS = {"anybody": "any", "ours": "ours"}


def begins_with_move(deeds, begins):
    """Return whether deeds begin with a move; begins tells it of the pieces."""
    word, first = deeds[0][0], deeds[0]
    if word == "times":
        return begins_with_move(first[2], begins)
    return word == "step" or (word == "call" and begins[first[1]])


def is_branch(thing, steps, begins):
    """Return whether thing is deeds that begin with a move."""
    return are_deeds(thing, steps, begins) and begins_with_move(thing, begins)


def is_deed(thing, steps, begins):
    """Return whether thing is one of DEEDS, names of STEPS being in steps, those of pieces in begins, both dicts."""
    if is_tuple_of(thing, 3) and thing[0] == "times":
        return is_number(thing[1]) and thing[1] >= 1 and are_deeds(thing[2], steps, begins)
    if not is_tuple_of(thing, 2) or not isinstance(thing[0], str):
        return False
    word, told = thing
    if word in OWNERS:
        return isinstance(told, tuple) and len(told) > 1 and all([is_branch(own, steps, begins) for own in told])
    if not isinstance(told, str):
        return False
    return (word == "step" and told in steps) or (word == "call" and told in begins)


def are_deeds(thing, steps, begins):
    """Return whether thing is deeds, names of STEPS being in steps, those of pieces in begins, both dicts."""
    return is_filled_tuple(thing) and all([is_deed(deed, steps, begins) for deed in thing])


def stands_of_deed(deed, sizes):
    """Return how many stands there are ahead of and within one of DEEDS; sizes has those of the pieces."""
    word = deed[0]
    if word == "step":
        return 1
    if word == "call":
        return sizes[deed[1]]
    if word == "times":
        return deed[1] * stands_of(deed[2], sizes)
    # The first DEED of each branch has the stand of the choice.
    return 1 + sum([stands_of(branch, sizes) - 1 for branch in deed[1]])


def stands_of(deeds, sizes):
    """Return how many stands deeds have, written out; sizes has those of the pieces."""
    return sum([stands_of_deed(deed, sizes) for deed in deeds])


def written(deeds, pieces):
    """Return deeds with the deeds of calls and times in the place of these; pieces has those of the pieces."""
    found = ()
    for deed in deeds:
        if deed[0] == "step":
            found = found + (deed,)
        elif deed[0] == "call":
            found = found + written(pieces[deed[1]], pieces)
        elif deed[0] == "times":
            found = found + written(deed[2], pieces) * deed[1]
        else:
            found = found + ((deed[0], tuple([written(branch, pieces) for branch in deed[1]])),)
    return found


def laid_choice(deed, free, behind, steps):
    """Return the stands of a choice as laid_out does; those within it are from free on."""
    arrows = []
    inner = []
    for branch in deed[1]:
        # The first DEED of the branch has the stand of the choice.
        rest = branch[1:]
        arrows.append((steps[branch[0][1]], behind if rest == () else free))
        inner = inner + laid_out(rest, free, behind, steps)
        free += stands_of(rest, {})
    once = each_once(arrows)
    owner = OWNERS[deed[0]] if len(once) > 1 else "any"
    return [(owner, tuple(once))] + inner


def laid_out(deeds, stand, behind, steps):
    """Return the list of the stands of deeds that are written out, from this stand on.

    behind is the stand where to go on in the end, steps has the places of the STEPS by their names.
    """
    found = []
    for k, deed in enumerate(deeds):
        after = stand + stands_of_deed(deed, {})
        end = behind if k == len(deeds) - 1 else after
        if deed[0] == "step":
            found.append(("any", ((steps[deed[1]], end),)))
        else:
            found = found + laid_choice(deed, stand + 1, end, steps)
        stand = after
    return found
