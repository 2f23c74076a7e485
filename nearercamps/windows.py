"""How long camps live, and the shortest row along which all die."""

from nearercamps.camps import is_camps
from nearercamps.errors import TooMuch, Unfit
from nearercamps.games import ends_of
from nearercamps.machines import choices, is_row, places_of
from nearercamps.plain import ascending, frozen, is_tuple_of
from nearercamps.quotients import UNIT, minus, multiplied
from nearercamps.ranks import led_places, spot_ranks
from nearercamps.splits import every_camps, led_by, led_map, led_maps, looks_along
from nearercamps.together import refuse_choices_of_ours
from nearercamps.ways import steps_along

MOST_PAIRS = 4000


def alive_behind(machine, row):
    """Return the set of the CAMPS that live along this row from the beginning."""
    looks = looks_along(machine, 0, row)
    ends = led_map(looks, every_camps(len(looks)))
    return tuple([camps for camps, end in ends.items() if end is not None])


def living(machine, row):
    """Return the set of the CAMPS that live along this row from the beginning."""
    machine, row = frozen(machine), frozen(row)
    if not is_row(machine, 0, row):
        raise Unfit()
    return alive_behind(machine, row)


def is_mix(machine, row):
    """Return whether row is one from the beginning along which no CAMPS live."""
    machine, row = frozen(machine), frozen(row)
    return is_row(machine, 0, row) and alive_behind(machine, row) == ()


def ranks_of_all(machine):
    """Return the ranks of all spots; Unfit() comes first if some choice is ours."""
    refuse_choices_of_ours(machine)
    return spot_ranks(machine)


def most_arrows(rank):
    """Return along how many arrows CAMPS of this rank can live, None if there is no greatest number.

    Where no choice is ours, the rank is the longest way to death: CAMPS live along all of its arrows but the last one.
    """
    return None if rank is None else rank - 1


def longest_by(machine, camps):
    """Return the most arrows of a row from the beginning along which camps live, None without a greatest number."""
    return most_arrows(ranks_of_all(frozen(machine))[(0, frozen(camps))])


def lives_at_begin(machine):
    """Return the dict of longest_by of all CAMPS."""
    machine = frozen(machine)
    ranks = ranks_of_all(machine)
    return {camps: most_arrows(ranks[(0, camps)]) for camps in every_camps(places_of(machine))}


def greatest_life(lives):
    """Return the greatest of lives_at_begin, None if there is none, 0 without CAMPS."""
    numbers = list(lives.values())
    if None in numbers:
        return None
    return max(numbers, default=0)


def longest_life(machine):
    """Return the most arrows of a row from the beginning along which some CAMPS live, None if there is none."""
    return greatest_life(lives_at_begin(machine))


def window(machine):
    """Return one more than longest_life, None if that is None."""
    life = longest_life(machine)
    return None if life is None else life + 1


def slow_way(machine, camps):
    """Return a longest row from the beginning along which camps, that have a rank there, live."""
    steps, stands = machine
    ranks = spot_ranks(machine)
    maps = led_maps(steps)
    stand = 0
    row = []
    while ranks[(stand, camps)] > 1:
        ends = ends_of(stand, camps, stands, maps)
        behind = [0 if end is None else ranks[end] for end in ends]
        arrow = behind.index(max(behind))
        row.append(arrow)
        stand, camps = ends[arrow]
    return tuple(row)


def slow_row(machine):
    """Return a pair of CAMPS and a row of longest_life arrows along which they live, None if there is none."""
    machine = frozen(machine)
    lives = lives_at_begin(machine)
    life = greatest_life(lives)
    if life is None or lives == {}:
        return None
    camps = min([own for own in lives if lives[own] == life])
    return (camps, slow_way(machine, camps))


def lives_along(machine, row, camps):
    """Return whether camps live along row, one from the beginning."""
    steps, stands = machine
    for step in steps_along(stands, 0, row):
        camps = led_by(steps[step][0], camps)
        if camps is None:
            return False
    return True


def is_slow_row(machine, thing):
    """Return whether thing is a pair as slow_row returns one."""
    machine = frozen(machine)
    life = longest_life(machine)
    if not is_tuple_of(thing, 2) or not is_camps(thing[0], places_of(machine)):
        return False
    camps, row = thing
    return is_row(machine, 0, row) and len(row) == life and lives_along(machine, row, camps)


def life_counts(machine, many):
    """Return, for k from 0 to many, how many CAMPS live along some row of k arrows, as a tuple."""
    lives = list(lives_at_begin(machine).values())
    # What lives along a row lives along what is ahead of its last arrow, too.
    return tuple([len([life for life in lives if life is None or life >= k]) for k in range(many + 1)])


def power_of(share, many):
    """Return share to the power many."""
    power = UNIT
    for _ in range(many):
        power = multiplied(power, share)
    return power


def spread_left(share, moves, times):
    """Return 1 less share to the power moves, to the power times."""
    return power_of(minus(UNIT, power_of(share, moves)), times)


def longer_mixes(stands, tables, spot):
    """Return, for each arrow, to which pair (stand, set of the places of CAMPS) it leads such a pair, as a list."""
    stand, alive = spot
    ends = []
    for step, end in stands[stand][1]:
        table = tables[step]
        ends.append((end, ascending([table[camps] for camps in alive if table[camps] != -1])))
    return ends


def shortest_mix(machine):
    """Return the least of the shortest rows from the beginning along which no CAMPS live, None if there is none."""
    steps, stands = frozen(machine)
    if choices((steps, stands), "any") != ():
        raise Unfit()
    every = every_camps(len(steps[0][0]))
    tables = led_places(steps, every)
    order = [(0, tuple([k for k in range(len(every))]))]
    rows = {order[0]: ()}
    at = 0
    while at < len(order):
        spot = order[at]
        # The pairs stand in the order of their rows, shorter ones first, so the first one without CAMPS is the answer.
        if spot[1] == ():
            return rows[spot]
        for arrow, end in enumerate(longer_mixes(stands, tables, spot)):
            if end not in rows:
                rows[end] = rows[spot] + (arrow,)
                order.append(end)
        if len(order) > MOST_PAIRS:
            raise TooMuch()
        at += 1
    return None
