"""CAMPS by plain counting: all of them, and what LOOKS lead them to."""

from nearercamps.looks import all_lots, behind_looks, lookers_within, stand_still
from nearercamps.ways import steps_along


def put_in_order(lot, one):
    """Return both LOTS, the less one first."""
    if lot < one:
        return (lot, one)
    return (one, lot)


def are_apart(lot, one):
    """Return whether two lots have no place in common."""
    return not any([place in one for place in lot])


def every_camps(n):
    """Return the ascending list of all CAMPS of n places."""
    lots = all_lots(n)
    return [(lot, one) for k, lot in enumerate(lots) for one in lots[k + 1:] if are_apart(lot, one)]


def is_part(lot, one):
    """Return whether all places of lot are in one."""
    return all([place in one for place in lot])


def lie_within(camps, other):
    """Return whether camps are within other."""
    a, b = camps
    c, d = other
    return (is_part(a, c) and is_part(b, d)) or (is_part(a, d) and is_part(b, c))


def led_by(looks, camps):
    """Return the CAMPS to which LOOKS lead camps, None if they die."""
    a, b = [lookers_within(looks, lot) for lot in camps]
    if a == () or b == ():
        return None
    return put_in_order(a, b)


def led_map(looks, every):
    """Return a dict with led_by(looks, camps) for each of every CAMPS."""
    within = {lot: lookers_within(looks, lot) for lot in all_lots(len(looks))}
    found = {}
    for a, b in every:
        going = (within[a], within[b])
        if going[0] == () or going[1] == ():
            found[(a, b)] = None
        else:
            found[(a, b)] = put_in_order(going[0], going[1])
    return found


def led_maps(steps):
    """Return the list of the led_maps of all CAMPS by each STEP."""
    every = every_camps(len(steps[0][0]))
    return [led_map(looks, every) for looks, _ in steps]


def looks_along(machine, stand, row):
    """Return the LOOKS of all moves of row from stand, one after another."""
    steps, stands = machine
    done = stand_still(len(steps[0][0]))
    for step in steps_along(stands, stand, row):
        done = behind_looks(done, steps[step][0])
    return done
