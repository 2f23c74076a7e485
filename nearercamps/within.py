"""Within told spans, and waits: what harms if named steps come often enough, or just again and again."""

from nearercamps.camps import is_camps
from nearercamps.lags import Lags, comes_round, lasting_round
from nearercamps.looks import least_closed, reached_from
from nearercamps.machines import places_of
from nearercamps.plain import frozen, is_filled_tuple, is_tuple_of
from nearercamps.splits import every_camps, is_part, lie_within, looks_along, put_in_order
from nearercamps.turns import is_kept_round, is_round_row, led_by_row
from nearercamps.ways import steps_along


def comes_within(steps, step, k):
    """Return whether step is among each k of steps, gone round for ever."""
    places = [at for at, own in enumerate(steps) if own == step]
    if places == []:
        return False
    behind = places[1:] + [places[0] + len(steps)]
    return all([end - at <= k for at, end in zip(places, behind)])


def is_round_within(machine, named, k, row):
    """Return whether row is a round row within k."""
    machine, row = frozen(machine), frozen(row)
    if not is_round_row(machine, row):
        return False
    steps = steps_along(machine[1], 0, row)
    return all([comes_within(steps, step, k) for step in named])


def harms(machine, named, k):
    """Return whether k harms."""
    return within_paper(machine, named, k) is not None


def can_harm(machine, named):
    """Return whether some k harms."""
    lags = Lags(machine, named, 1)
    return any([comes_round(lags, named, (0, camps)) for camps in every_camps(places_of(machine))])


def least_harming(machine, named):
    """Return the least k that harms, None if none does."""
    machine, named = frozen(machine), frozen(named)
    if not can_harm(machine, named):
        return None
    k = 1
    # What harms with all named STEPS harms with each one alone, and these are found sooner.
    for some in [(step,) for step in named] + [named]:
        while not harms(machine, some, k):
            k += 1
    return k


def within_paper(machine, named, k):
    """Return a pair of CAMPS and a round row within k that keeps them, None if there is none."""
    return lasting_round(Lags(frozen(machine), frozen(named), k))


def is_within_paper(machine, named, k, thing):
    """Return whether thing is a pair of CAMPS and a round row within k that keeps them."""
    machine = frozen(machine)
    if not is_tuple_of(thing, 2) or not is_camps(thing[0], places_of(machine)):
        return False
    return is_kept_round(machine, thing[1], thing[0]) and is_round_within(machine, named, k, thing[1])


def seeing_within(lots, seen, lot):
    """Return the lot of the places that see, of these least closed lots, none but within lot."""
    inner = [own for own in lots if is_part(own, lot)]
    found = []
    for place, places in enumerate(seen):
        if all([own in inner for own in lots if is_part(own, places)]):
            found.append(place)
    return tuple(found)


def waited(machine, row, camps):
    """Return the CAMPS to which the wait leads camps, None if they die."""
    looks = looks_along(machine, 0, row)
    lots = least_closed(looks)
    seen = [reached_from(looks, place) for place in range(len(looks))]
    a, b = [seeing_within(lots, seen, lot) for lot in camps]
    if a == () or b == ():
        return None
    return put_in_order(a, b)


def is_turn(machine, thing):
    """Return whether thing is a pair of a round row and True or False."""
    return is_tuple_of(thing, 2) and is_round_row(machine, thing[0]) and isinstance(thing[1], bool)


def led_by_turns(machine, turns, camps):
    """Return the CAMPS to which turns lead camps, None if they die."""
    for row, is_wait in turns:
        camps = waited(machine, row, camps) if is_wait else led_by_row(machine, row, camps)
        if camps is None:
            return None
    return camps


def is_waiting_paper(machine, named, thing):
    """Return whether thing is a pair of CAMPS and TURNS that keep them and have each named STEP."""
    machine = frozen(machine)
    if not is_tuple_of(thing, 2) or not is_camps(thing[0], places_of(machine)) or not is_filled_tuple(thing[1]):
        return False
    camps, turns = thing
    if not all([is_turn(machine, turn) for turn in turns]):
        return False
    came = {step: True for row, _ in turns for step in steps_along(machine[1], 0, row)}
    if not all([step in came for step in named]):
        return False
    going = led_by_turns(machine, turns, camps)
    return going is not None and lie_within(camps, going)


def waiting_row(turns, first, many):
    """Return the row of all turns, many times, each wait first times at first, once more in each next one."""
    done = []
    for times in range(first, first + many):
        for row, is_wait in frozen(turns):
            done = done + list(row) * (times if is_wait else 1)
    return tuple(done)
