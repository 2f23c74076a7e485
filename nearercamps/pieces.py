"""Pieces of programs, and when one may be exchanged for another in every program."""

from nearercamps.camps import greatest_camps
from nearercamps.errors import CanNot, NoPlace, Unfit
from nearercamps.looks import behind_looks, is_looks, stand_still
from nearercamps.machines import is_arrow
from nearercamps.plain import ascending, frozen, is_filled_tuple, is_number_below, is_tuple_of
from nearercamps.splits import every_camps, led_map, lie_within
from nearercamps.steps import free_step, is_step
from nearercamps.together import surely_together


def are_arrows_on(thing, stand, steps, stands):
    """Return whether thing is arrows from stand of a PIECE with so many STEPS and stands."""
    if not is_filled_tuple(thing) or not all([is_arrow(arrow, steps, stands + 1) for arrow in thing]):
        return False
    return all([end > stand for _, end in thing]) and len(set(thing)) == len(thing)


def is_piece(thing, n):
    """Return whether thing is a PIECE for n places."""
    if not is_tuple_of(thing, 2) or not is_filled_tuple(thing[0]) or not isinstance(thing[1], tuple):
        return False
    steps, stands = thing
    if not all([is_step(step, n) for step in steps]):
        return False
    if not all([are_arrows_on(arrows, k, len(steps), len(stands)) for k, arrows in enumerate(stands)]):
        return False
    reached = {end: True for arrows in stands for _, end in arrows}
    return all([k in reached for k in range(1, len(stands))])


def row_piece(steps):
    """Return the PIECE of one row by steps."""
    return (frozen(steps), tuple([((k, k + 1),) for k in range(len(steps))]))


def choice_piece(looks):
    """Return the PIECE of one stand, with an arrow by an untold STEP for each of looks."""
    return (tuple([free_step(own) for own in looks]), (tuple([(k, 1) for k in range(len(looks))]),))


def piece_places(piece):
    """Return the count of the places of piece."""
    steps, _ = piece
    return len(steps[0][0])


def piece_looks(piece):
    """Return the set of the LOOKS of the rows of piece."""
    steps, stands = frozen(piece)
    found = [[] for _ in stands] + [[]]
    found[0].append(stand_still(piece_places(piece)))
    for stand, arrows in enumerate(stands):
        here = ascending(found[stand])
        for step, end in arrows:
            found[end] = found[end] + [behind_looks(looks, steps[step][0]) for looks in here]
    return ascending(found[-1])


def maps_of_looks(every, looks):
    """Return the list of the dicts of what each of looks leads every CAMPS to."""
    return [led_map(own, every) for own in looks]


def table_of_looks(looks):
    """Return the table of the choice_piece of looks."""
    looks = frozen(looks)
    every = every_camps(len(looks[0]))
    maps = maps_of_looks(every, looks)
    found = []
    for camps in every:
        found.append((camps, greatest_camps([ends[camps] for ends in maps if ends[camps] is not None])))
    return tuple(found)


def piece_table(piece):
    """Return the table of piece."""
    return table_of_looks(piece_looks(piece))


def is_needless(ends, others):
    """Return whether what one of LOOKS leads CAMPS to lies within what others lead them to, so that they tell all."""
    for camps, end in ends.items():
        wide = [own[camps] for own in others if own[camps] is not None]
        if end is not None and not any([lie_within(end, one) for one in wide]):
            return False
    return others != []


def plain_looks(piece):
    """Return the LOOKS of piece, but for those that are left out one after the other, the table staying the same."""
    looks = piece_looks(piece)
    left = dict(zip(looks, maps_of_looks(every_camps(piece_places(piece)), looks)))
    for own in looks:
        if is_needless(left[own], [left[one] for one in left if one != own]):
            del left[own]
    return tuple(left)


def moved_up(arrows, steps, stands):
    """Return arrows with so much added to the places of their STEPS and to their ends."""
    return tuple([(step + steps, end + stands) for step, end in arrows])


def joined_piece(one, other):
    """Return the PIECE that goes by one, then by other."""
    steps, stands = frozen(one)
    more_steps, more_stands = frozen(other)
    behind = [moved_up(arrows, len(steps), len(stands)) for arrows in more_stands]
    return (steps + more_steps, stands + tuple(behind))


def either_piece(one, other):
    """Return the PIECE that goes by one or by other."""
    steps, stands = frozen(one)
    more_steps, more_stands = frozen(other)
    if stands == () or more_stands == ():
        raise Unfit()
    # The way out is behind all stands; the way in of other is gone, so all of its others are one place less far on.
    out = len(stands) + len(more_stands) - 1
    first = [tuple([(step, out if end == len(stands) else end) for step, end in arrows]) for arrows in stands]
    second = [moved_up(arrows, len(steps), len(stands) - 1) for arrows in more_stands]
    return (steps + more_steps, (first[0] + second[0],) + tuple(first[1:] + second[1:]))


def joined_table(table, behind):
    """Return the table of a joined PIECE by those of both."""
    ends = {camps: greatest for camps, greatest in frozen(behind)}
    found = []
    for camps, greatest in frozen(table):
        found.append((camps, greatest_camps([end for one in greatest for end in ends[one]])))
    return tuple(found)


def either_table(table, beside):
    """Return the table of an either PIECE by those of both."""
    ends = {camps: greatest for camps, greatest in frozen(beside)}
    return tuple([(camps, greatest_camps(greatest + ends[camps])) for camps, greatest in frozen(table)])


def pieces_alike(one, other):
    """Return whether the tables of both are equal."""
    return piece_table(one) == piece_table(other)


def led_out(arrows, steps, stands, out, end):
    """Return arrows of a PIECE in a MACHINE, behind so many STEPS and stands; those to the way out lead to end."""
    return tuple([(step + steps, end if to == out else to + stands) for step, to in arrows])


def called(machine, stand, arrow, piece):
    """Return the MACHINE with piece called in the place of an arrow."""
    steps, stands = frozen(machine)
    more_steps, inner = frozen(piece)
    if not is_number_below(stand, len(stands)):
        raise NoPlace(stand)
    owner, arrows = stands[stand]
    if not is_number_below(arrow, len(arrows)):
        raise NoPlace(arrow)
    end = arrows[arrow][1]
    every = steps + more_steps + (free_step(stand_still(piece_places(piece))),)
    going = (len(every) - 1, end if inner == () else len(stands))
    calling = (owner, arrows[:arrow] + (going,) + arrows[arrow + 1:])
    behind = [("any", led_out(own, len(steps), len(stands), len(inner), end)) for own in inner]
    return (every, stands[:stand] + (calling,) + stands[stand + 1:] + tuple(behind))


def around(piece, looks):
    """Return the MACHINE that goes round by piece, then by a STEP with these LOOKS."""
    steps, stands = frozen(piece)
    going = [("any", arrows) for arrows in stands] + [("any", ((len(steps), 0),))]
    return (steps + (free_step(looks),), tuple(going))


def kept_only(table, beside):
    """Return CAMPS and others to which the first table leads them, not within any in the second; None if none are."""
    ends = {camps: greatest for camps, greatest in beside}
    for camps, greatest in table:
        for going in greatest:
            if not any([lie_within(going, end) for end in ends[camps]]):
                return camps, going
    return None


def looks_back(n, camps, going):
    """Return LOOKS for n places by which going, and what it lies within, is led back to camps, all else dies."""
    every = tuple(range(n))
    a, b = camps
    c, d = going
    return tuple([c if place in a else d if place in b else every for place in every])


def surrounding(one, other):
    """Return LOOKS with which just one of both, gone round with them, comes together in every run."""
    tables = [piece_table(one), piece_table(other)]
    if tables[0] == tables[1]:
        raise CanNot()
    found = kept_only(tables[0], tables[1])
    if found is None:
        found = kept_only(tables[1], tables[0])
    return looks_back(piece_places(one), found[0], found[1])


def is_surrounding(one, other, thing):
    """Return whether thing is LOOKS with which just one of both, gone round with them, comes together in every run."""
    if not is_looks(thing, piece_places(one)):
        return False
    return surely_together(around(one, thing)) != surely_together(around(other, thing))
