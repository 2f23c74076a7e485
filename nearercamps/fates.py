"""Whether all CAMPS of the beginning can be killed: one answer for a whole MACHINE, counted quickly.

A lot is told by a number here, whose binary digit at p is 1 if place p is in the lot. CAMPS of the beginning are
looked at only if they hold all places: all others are within such ones, and can be killed no later.
"""


def lot_number(lot):
    """Return the number that tells lot."""
    return sum([1 << place for place in lot])


def within_numbers(looks):
    """Return, for each lot in order of the numbers, the lot of all that look at places of it alone, as a list."""
    seen = [lot_number(lot) for lot in looks]
    found = []
    for lot in range(1 << len(looks)):
        found.append(sum([1 << place for place, own in enumerate(seen) if own & lot == own]))
    return found


def ends_by(arrows, tables, spot):
    """Return the list of the spots to which arrows lead this one, None where its CAMPS die."""
    _, low, high = spot
    ends = []
    for step, end in arrows:
        table = tables[step]
        one, other = table[low], table[high]
        if one == 0 or other == 0:
            ends.append(None)
        else:
            ends.append((end, min(one, other), max(one, other)))
    return ends


def ends_met(begins, stands, tables):
    """Return a dict that has, for each spot that is met from begins on, the list of its ends_by."""
    order = list(begins)
    found = {spot: [] for spot in begins}
    at = 0
    while at < len(order):
        spot = order[at]
        ends = ends_by(stands[spot[0]][1], tables, spot)
        found[spot] = ends
        for end in ends:
            if end is not None and end not in found:
                found[end] = []
                order.append(end)
        at += 1
    return found


def all_can_die(machine):
    """Return whether we can have all CAMPS of the beginning dead, each for itself, whatever anybody does."""
    steps, stands = machine
    tables = [within_numbers(looks) for looks, _ in steps]
    full = len(tables[0]) - 1
    begins = [(0, min(lot, full - lot), max(lot, full - lot)) for lot in range(1, full, 2)]
    ends = ends_met(begins, stands, tables)
    ahead = {spot: [] for spot in ends}
    missing = {}
    falling = []
    for spot in ends:
        owner, arrows = stands[spot[0]]
        # At a stand of ours one good arrow is enough, at others all must be good.
        missing[spot] = 1 if owner == "ours" else len(arrows)
        for end in ends[spot]:
            if end is None:
                falling.append(spot)
            else:
                ahead[end].append(spot)
    while falling != []:
        spot = falling.pop()
        missing[spot] -= 1
        if missing[spot] == 0:
            falling.extend(ahead[spot])
    return all([missing[spot] <= 0 for spot in begins])
