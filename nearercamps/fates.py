"""Whether all CAMPS of the beginning can be killed: one answer for a whole MACHINE, counted quickly.

A lot is told by a number here, whose binary digit at p is 1 if place p is in the lot. CAMPS of the beginning are
looked at only if they hold all places: all others are within such ones, and can be killed no later.
"""

from nearercamps.falls import fall_ranks

# What has died: a stand and two lots, told by numbers, as all spots are.
DEAD = (0, 0, 0)


def lot_number(lot):
    """Return the number that tells lot."""
    return sum([1 << place for place in lot])


def within_numbers(looks):
    """Return, for each lot in order of the numbers, the lot of all that look at places of it alone, as a list."""
    seen = [lot_number(lot) for lot in looks]
    found = []
    for lot in range(1 << len(looks)):
        found.append(sum([1 << place for place, own in enumerate(seen) if own & lot == own]))
    return found


def ends_by(arrows, tables, spot):
    """Return the list of the spots to which arrows lead this one."""
    _, low, high = spot
    ends = []
    for step, end in arrows:
        table = tables[step]
        one, other = table[low], table[high]
        if one == 0 or other == 0:
            ends.append(DEAD)
        else:
            ends.append((end, min(one, other), max(one, other)))
    return ends


def ends_met(begins, stands, tables):
    """Return a dict that has, for each spot that is met from begins on, the list of its ends_by."""
    order = list(begins)
    found = {DEAD: []}
    for spot in begins:
        found[spot] = []
    at = 0
    while at < len(order):
        spot = order[at]
        ends = ends_by(stands[spot[0]][1], tables, spot)
        found[spot] = ends
        for end in ends:
            if end not in found:
                found[end] = []
                order.append(end)
        at += 1
    return found


def all_can_die(machine):
    """Return whether we can have all CAMPS of the beginning dead, each for itself, whatever anybody does."""
    steps, stands = machine
    tables = [within_numbers(looks) for looks, _ in steps]
    full = len(tables[0]) - 1
    begins = [(0, min(lot, full - lot), max(lot, full - lot)) for lot in range(1, full, 2)]
    ends = ends_met(begins, stands, tables)
    # At a stand of ours one good arrow is enough, at others all must be good.
    needs = {spot: 1 if stands[spot[0]][0] == "ours" else len(ends[spot]) for spot in ends}
    needs[DEAD] = 0
    ranks = fall_ranks(ends, needs)
    return all([spot in ranks for spot in begins])
