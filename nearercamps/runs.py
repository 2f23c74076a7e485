"""Runs in numbers: the stands, moves, states and camps on the way of a row from the beginning."""

from nearercamps.errors import NoPlace, Unfit
from nearercamps.looks import behind_looks, stand_still
from nearercamps.machines import places_of
from nearercamps.plain import frozen, is_number_below
from nearercamps.quotients import NOUGHT, UNIT
from nearercamps.splits import led_by
from nearercamps.steps import even_step, is_mean, move_ranges, moved, moved_by, spread_of


def row_stands(machine, row):
    """Return the list of the stands on the way, from the beginning to the last one."""
    _, stands = machine
    way = [0]
    for arrow in row:
        arrows = stands[way[-1]][1]
        if not is_number_below(arrow, len(arrows)):
            raise NoPlace(arrow)
        way.append(arrows[arrow][1])
    return way


def row_moves(machine, row):
    """Return the list of the places of the STEPS on the way."""
    _, stands = machine
    return [stands[stand][1][arrow][0] for stand, arrow in zip(row_stands(machine, row), row)]


def row_steps(machine, row):
    """Return the list of the STEPS on the way."""
    steps, _ = frozen(machine)
    return [steps[step] for step in row_moves(machine, row)]


def row_looks(machine, row):
    """Return the LOOKS of all moves of row, one after another."""
    steps = row_steps(machine, row)
    done = stand_still(places_of(machine))
    for looks, _ in steps:
        done = behind_looks(done, looks)
    return done


def evened(step):
    """Return step, with equal told shares if it tells none."""
    looks, shares = step
    return even_step(looks) if shares is None else step


def run_even(machine, row, state):
    """Return the list of the STATES from state on, if shares that are not told are equal ones."""
    states = []
    going = frozen(state)
    for step in row_steps(machine, row):
        states.append(going)
        going = moved(evened(step), going)
    return states + [going]


def run_by(machine, row, state, shares):
    """Return the list of the STATES from state on, if these are the shares."""
    steps = row_steps(machine, row)
    if len(shares) != len(steps):
        raise Unfit()
    states = [frozen(state)]
    for step, rows in zip(steps, shares):
        states.append(moved_by(step, rows, states[-1]))
    return states


def is_run(machine, row, states, d):
    """Return whether states are a run along row whose moves keep to d."""
    steps = row_steps(machine, row)
    if len(states) != len(steps) + 1:
        return False
    return all([is_mean(step, states[k], states[k + 1], d) for k, step in enumerate(steps)])


def ranges_after(machine, row, state, d):
    """Return the list of pairs (least, greatest) of what each place can hold behind row by moves that keep to d."""
    # All places can hold their least numbers at once, and all their greatest ones: each has shares of its own.
    least = frozen(state)
    greatest = least
    for step in row_steps(machine, row):
        least = tuple([low for low, _ in move_ranges(step, least, d)])
        greatest = tuple([high for _, high in move_ranges(step, greatest, d)])
    return list(zip(least, greatest))


def camp_number(place, camps):
    """Return what place holds if the first LOT of camps holds 0 and the second one 1."""
    if place in camps[0]:
        return NOUGHT
    if place in camps[1]:
        return UNIT
    return (1, 2)


def camp_state(n, camps):
    """Return the STATE with 0 at the places of the first LOT of camps, 1 at those of the second one, 1/2 elsewhere."""
    return tuple([camp_number(place, camps) for place in range(n)])


def camps_on_the_way(machine, row, camps):
    """Return the list of the CAMPS to which the moves of row lead camps, from camps on, as long as they do not die."""
    found = [frozen(camps)]
    for looks, _ in row_steps(machine, row):
        going = led_by(looks, found[-1])
        if going is None:
            return found
        found.append(going)
    return found


def spreads(machine, row, state):
    """Return the list of the spreads along run_even."""
    return [spread_of(there) for there in run_even(machine, row, state)]
