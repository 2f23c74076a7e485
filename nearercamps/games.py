"""Games about camps: who can have them dead, and who can keep them."""

from nearercamps.camps import is_camps
from nearercamps.errors import CanNot, NoPlace
from nearercamps.plain import frozen, is_filled_tuple, is_number, is_number_below, is_rising, is_tuple_of
from nearercamps.ranks import spot_ranks
from nearercamps.splits import led_by, led_maps


def ranks_from(machine, stand):
    """Return the ranks of all spots of machine; NoPlace(stand) comes first."""
    if not is_number_below(stand, len(machine[1])):
        raise NoPlace(stand)
    return spot_ranks(machine)


def kill_rank(machine, stand, camps):
    """Return the rank of the spot (stand, camps), None if it has none."""
    ranks = ranks_from(frozen(machine), stand)
    return ranks[(stand, frozen(camps))]


def can_kill(machine, stand, camps):
    """Return whether the spot (stand, camps) has a rank."""
    return kill_rank(machine, stand, camps) is not None


def kill_ranks(machine):
    """Return the KILL RANKS with all spots that have a rank."""
    ranks = spot_ranks(frozen(machine))
    return tuple([(stand, camps, rank) for (stand, camps), rank in ranks.items() if rank is not None])


def is_spot(stand, camps, stands, n):
    """Return whether (stand, camps) is a spot of a MACHINE with so many stands, for n places."""
    return is_number_below(stand, stands) and is_camps(camps, n)


def is_ranked_spot(thing, stands, n):
    """Return whether thing is a triple of a stand, CAMPS and a number from 1."""
    if not is_tuple_of(thing, 3) or not is_spot(thing[0], thing[1], stands, n):
        return False
    return is_number(thing[2]) and thing[2] >= 1


def ends_of(stand, camps, stands, maps):
    """Return the list of the spots to which the arrows of stand lead camps, None where they die."""
    ends = []
    for step, end in stands[stand][1]:
        going = maps[step][camps]
        ends.append(None if going is None else (end, going))
    return ends


def has_good_arrows(stand, camps, stands, maps, ranks):
    """Return whether some arrow, at a stand of ours, each one, at others, is good."""
    good = []
    for end in ends_of(stand, camps, stands, maps):
        good.append(end is None or (end in ranks and ranks[end] < ranks[(stand, camps)]))
    return any(good) if stands[stand][0] == "ours" else all(good)


def are_kill_ranks(machine, thing):
    """Return whether thing is KILL RANKS."""
    steps, stands = frozen(machine)
    n = len(steps[0][0])
    if not isinstance(thing, tuple) or not all([is_ranked_spot(triple, len(stands), n) for triple in thing]):
        return False
    ranks = {(stand, camps): rank for stand, camps, rank in thing}
    if not is_rising(thing) or len(ranks) != len(thing):
        return False
    maps = led_maps(steps)
    return all([has_good_arrows(stand, camps, stands, maps, ranks) for stand, camps, _ in thing])


def keeping_table(machine):
    """Return the KEEPING TABLE with all spots that have no rank."""
    ranks = spot_ranks(frozen(machine))
    table = tuple([spot for spot, rank in ranks.items() if rank is None])
    if table == ():
        raise CanNot()
    return table


def keeps_on(stand, camps, stands, maps, spots):
    """Return whether each arrow, at a stand of ours, some arrow, at others, leads to one of spots."""
    kept = [end in spots for end in ends_of(stand, camps, stands, maps)]
    return all(kept) if stands[stand][0] == "ours" else any(kept)


def is_keeping_table(machine, thing):
    """Return whether thing is a KEEPING TABLE."""
    steps, stands = frozen(machine)
    n = len(steps[0][0])
    if not is_filled_tuple(thing):
        return False
    if not all([is_tuple_of(spot, 2) and is_spot(spot[0], spot[1], len(stands), n) for spot in thing]):
        return False
    if not is_rising(thing):
        return False
    maps = led_maps(steps)
    spots = {spot: True for spot in thing}
    return all([keeps_on(stand, camps, stands, maps, spots) for stand, camps in thing])


def best_ends(machine, ranks, stand, camps):
    """Return the best_arrows, by the ranks of all spots."""
    steps, stands = machine
    owner, arrows = stands[stand]
    # No rank is greater than the count of spots.
    never = len(ranks) + 1
    behind = []
    for step, end in arrows:
        going = led_by(steps[step][0], camps)
        rank = 0 if going is None else ranks[(end, going)]
        behind.append(never if rank is None else rank)
    best = min(behind) if owner == "ours" else max(behind)
    return tuple([k for k, rank in enumerate(behind) if rank == best])


def best_arrows(machine, stand, camps):
    """Return the set of the arrows of stand that are best in the game from (stand, camps)."""
    machine = frozen(machine)
    return best_ends(machine, ranks_from(machine, stand), stand, frozen(camps))


def game_row(machine, stand, camps, many):
    """Return the row of the game from (stand, camps) by the least of best_arrows, of many arrows at most."""
    machine, camps = frozen(machine), frozen(camps)
    ranks = ranks_from(machine, stand)
    steps, stands = machine
    row = ()
    while camps is not None and len(row) < many:
        arrow = best_ends(machine, ranks, stand, camps)[0]
        row = row + (arrow,)
        step, stand = stands[stand][1][arrow]
        camps = led_by(steps[step][0], camps)
    return row
