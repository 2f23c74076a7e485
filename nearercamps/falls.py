"""What falls in the end: spots that fall as soon as enough of their ends have fallen."""


def spots_ahead(ends):
    """Return a dict of the list of the spots ahead of each one, once for each arrow; ends has those behind it."""
    ahead = {spot: [] for spot in ends}
    for spot in ends:
        for end in ends[spot]:
            ahead[end].append(spot)
    return ahead


def fall_ranks(ends, needs):
    """Return a dict of the rank of each spot that falls, in the order of the ranks.

    ends has the list of the ends of each spot, needs how many of these must have fallen ahead of it: a spot that needs
    none has the rank 0, any other one that falls 1 more than the rank with which it has enough.
    """
    ahead = spots_ahead(ends)
    missing = {spot: needs[spot] for spot in ends}
    falling = [spot for spot in ends if needs[spot] == 0]
    ranks = {spot: 0 for spot in falling}
    rank = 0
    while falling != []:
        rank += 1
        fallen = []
        for spot in [one for end in falling for one in ahead[end]]:
            missing[spot] -= 1
            if missing[spot] == 0:
                ranks[spot] = rank
                fallen.append(spot)
        falling = fallen
    return ranks
