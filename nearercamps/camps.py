"""Camps: two lots that are kept apart as long as they live."""

from nearercamps.errors import Unfit
from nearercamps.looks import is_lot
from nearercamps.plain import ascending, frozen, is_tuple_of
from nearercamps.splits import are_apart, every_camps, led_by, led_map, lie_within, looks_along, put_in_order
from nearercamps.ways import steps_along


def is_camps(thing, n):
    """Return whether thing is CAMPS of n places."""
    if not is_tuple_of(thing, 2) or not is_lot(thing[0], n) or not is_lot(thing[1], n):
        return False
    return thing[0] < thing[1] and len(set(thing[0] + thing[1])) == len(thing[0]) + len(thing[1])


def all_camps(n):
    """Return the ascending list of all CAMPS of n places."""
    return every_camps(n)


def in_camps(lot, one):
    """Return the CAMPS of two LOTS."""
    lot, one = frozen(lot), frozen(one)
    if not are_apart(lot, one):
        raise Unfit()
    return put_in_order(lot, one)


def are_within(camps, other):
    """Return whether camps are within other."""
    return lie_within(camps, other)


def greatest_camps(some):
    """Return the set of the greatest ones among some."""
    every = ascending(frozen(some))
    return tuple([camps for camps in every if not any([lie_within(camps, one) for one in every if one != camps])])


def led(looks, camps):
    """Return the CAMPS to which LOOKS lead camps, None if they die."""
    return led_by(looks, camps)


def led_along(machine, stand, row, camps):
    """Return the CAMPS to which the moves of row from stand lead camps, None if they die."""
    return led_by(looks_along(machine, stand, row), camps)


def life_along(machine, stand, row, camps):
    """Return behind how many moves of row from stand camps live still."""
    steps, stands = machine
    moves = 0
    for step in steps_along(stands, stand, row):
        camps = led_by(steps[step][0], camps)
        if camps is None:
            return moves
        moves += 1
    return moves


def left_alive(machine, stand, row):
    """Return the set of the greatest CAMPS to which row from stand leads any that do not die."""
    looks = looks_along(machine, stand, row)
    ends = list(led_map(looks, every_camps(len(looks))).values())
    return greatest_camps([camps for camps in ends if camps is not None])


def kills_all(machine, stand, row):
    """Return whether all CAMPS die along row from stand."""
    return left_alive(machine, stand, row) == ()


def hangs_on(machine, stand, row, place):
    """Return the LOT of the places on which place hangs over row from stand."""
    return looks_along(machine, stand, row)[place]


def common_places(machine, stand, row):
    """Return the lot of the places on which all places hang over row from stand."""
    looks = looks_along(machine, stand, row)
    return tuple([place for place in looks[0] if all([place in lot for lot in looks])])


def living_ever_longer(looks):
    """Return the list of the lists of CAMPS that live behind 0, 1, .. moves by LOOKS, up to those that never die."""
    every = every_camps(len(looks))
    ends = led_map(looks, every)
    living = [every]
    while True:
        still = [camps for camps in every if ends[camps] in living[-1]]
        if still == living[-1]:
            return living
        living.append(still)


def lasting(looks):
    """Return the set of the CAMPS that never die if LOOKS are gone round for ever."""
    return tuple(living_ever_longer(looks)[-1])


def longest_alone(looks):
    """Return the greatest number of moves behind which some CAMPS live still that are not lasting."""
    return max(0, len(living_ever_longer(looks)) - 2)


def renamed_camps(camps, order):
    """Return the CAMPS with order[p] for p, put in order."""
    a, b = [tuple(sorted([order[place] for place in lot])) for lot in camps]
    return put_in_order(a, b)
