"""The ranks of all spots of a MACHINE, counted back from where CAMPS die.

Inside, a spot is told by one number: its stand times the count of CAMPS, and the place of its CAMPS.
"""

from nearercamps.splits import every_camps, led_maps


def led_places(steps, every):
    """Return, for each STEP, the list of the places to which it leads every CAMPS, -1 if they die."""
    place_of = {camps: k for k, camps in enumerate(every)}
    tables = []
    for ends in led_maps(steps):
        tables.append([-1 if ends[camps] is None else place_of[ends[camps]] for camps in every])
    return tables


def spots_ahead(stands, tables, count):
    """Return the list of the spots ahead of each spot, and that of those ahead of death, once for each arrow."""
    ahead = [[] for _ in range(len(stands) * count)]
    dying = []
    for stand, (_, arrows) in enumerate(stands):
        for step, end in arrows:
            for k, place in enumerate(tables[step]):
                spot = stand * count + k
                if place == -1:
                    dying.append(spot)
                else:
                    ahead[end * count + place].append(spot)
    return ahead, dying


def ranks_by_number(stands, tables, count):
    """Return the list of the rank of each spot, 0 if it has none."""
    ahead, falling = spots_ahead(stands, tables, count)
    # At a stand of ours one good arrow is enough, at others all must be good.
    missing = []
    for owner, arrows in stands:
        missing = missing + [1 if owner == "ours" else len(arrows)] * count
    ranks = [0] * len(missing)
    rank = 0
    while falling != []:
        rank += 1
        fallen = []
        for spot in falling:
            missing[spot] -= 1
            if missing[spot] == 0:
                ranks[spot] = rank
                fallen.append(spot)
        falling = [spot for end in fallen for spot in ahead[end]]
    return ranks


def spot_ranks(machine):
    """Return the dict of the ranks of all spots (stand, camps), None for those without, in ascending order."""
    steps, stands = machine
    every = every_camps(len(steps[0][0]))
    ranks = ranks_by_number(stands, led_places(steps, every), len(every))
    found = {}
    for stand in range(len(stands)):
        for k, camps in enumerate(every):
            rank = ranks[stand * len(every) + k]
            found[(stand, camps)] = None if rank == 0 else rank
    return found
