"""Who is heard: lots at whose numbers all look in the end, by others."""

from nearercamps.chases import Chase, every_lot, goal_row, is_reaching_plan, is_row_and_ring, is_shunning_plan
from nearercamps.chases import lot_behind, moves_to_goal, reaching_plan, shunning_plan, shunning_ring
from nearercamps.errors import CanNot
from nearercamps.looks import all_lots, lookers_at
from nearercamps.machines import places_of
from nearercamps.owners import handed_over
from nearercamps.plain import frozen
from nearercamps.runs import row_moves
from nearercamps.splits import is_part


def hearers_along(machine, row, lot):
    """Return the list of the hearers of lot on the way of row."""
    steps, _ = machine
    found = [frozen(lot)]
    for step in row_moves(machine, row):
        found.append(lookers_at(steps[step][0], found[-1]))
    return found


def hearers_chase(machine, lot):
    """Return the Chase of the hearers of lot, whose goal is all places."""
    machine = frozen(machine)
    every = every_lot(places_of(machine))
    tables = [{own: lookers_at(looks, own) for own in every} for looks, _ in machine[0]]
    return Chase(machine, tables, frozen(lot), tuple(range(places_of(machine))))


def free_chase(machine, lot):
    """Return the hearers_chase in which all choices are anybody's."""
    return hearers_chase(handed_over(machine, ()), lot)


def ever_heard(machine, lot):
    """Return whether lot is heard behind some row."""
    return goal_row(hearers_chase(machine, lot)) is not None


def heard_row(machine, lot):
    """Return the least of the shortest rows behind which lot is heard."""
    row = goal_row(hearers_chase(machine, lot))
    if row is None:
        raise CanNot()
    return row


def surely_heard(machine, lot):
    """Return whether lot is heard in every run."""
    return heard_moves(machine, lot) is not None


def heard_moves(machine, lot):
    """Return the least number of moves behind which lot is heard along each row, None if there is none."""
    return moves_to_goal(free_chase(machine, lot))


def unheard_ring(machine, lot):
    """Return a row and a ring behind it along which lot gets no hearers that it had not."""
    ring = shunning_ring(free_chase(machine, lot))
    if ring is None:
        raise CanNot()
    return ring


def is_unheard_ring(machine, lot, thing):
    """Return whether thing is a row and a ring behind it along which lot gets no hearers that it had not."""
    chase = hearers_chase(machine, lot)
    if not is_row_and_ring(chase.machine, thing):
        return False
    row, ring = thing
    hearers = lot_behind(chase, row)
    return hearers != chase.goal and is_part(lot_behind(chase, row + ring), hearers)


def can_be_heard(machine, lot):
    """Return whether some rule of ours makes lot heard, whatever anybody does."""
    return moves_to_goal(hearers_chase(machine, lot)) is not None


def voice_plan(machine, lot):
    """Return a VOICE PLAN."""
    plan = reaching_plan(hearers_chase(machine, lot))
    if plan is None:
        raise CanNot()
    return plan


def mute_plan(machine, lot):
    """Return a MUTE PLAN."""
    plan = shunning_plan(hearers_chase(machine, lot))
    if plan is None:
        raise CanNot()
    return plan


def is_voice_plan(machine, lot, thing):
    """Return whether thing is a VOICE PLAN."""
    return is_reaching_plan(hearers_chase(machine, lot), thing)


def is_mute_plan(machine, lot, thing):
    """Return whether thing is a MUTE PLAN."""
    return is_shunning_plan(hearers_chase(machine, lot), thing)


def least_voices(machine):
    """Return the ascending list of the LOTS that are surely heard, with no other such one within them."""
    found = [lot for lot in all_lots(places_of(machine)) if surely_heard(machine, lot)]
    return [lot for lot in found if not any([one != lot and is_part(one, lot) for one in found])]


def silent_places(machine):
    """Return the lot of the places that alone are heard behind no row."""
    return tuple([place for place in range(places_of(machine)) if not ever_heard(machine, (place,))])
