"""Who holds all others: lots that look at themselves alone, to which all others are drawn."""

from nearercamps.chases import Chase, every_lot, is_reaching_plan, is_row_and_ring, is_shunning_plan, lot_behind
from nearercamps.chases import moves_to_goal, reaching_plan, shunning_plan, shunning_ring
from nearercamps.errors import CanNot, Unfit
from nearercamps.looks import all_lots, is_closed, lookers_within
from nearercamps.machines import places_of
from nearercamps.owners import handed_over
from nearercamps.plain import ascending, frozen
from nearercamps.quotients import UNIT
from nearercamps.runs import row_moves
from nearercamps.splits import is_part


def looks_on_arrows(machine):
    """Return the list of the LOOKS of the STEPS on arrows."""
    steps, stands = machine
    return [steps[step][0] for step in ascending([step for _, arrows in stands for step, _ in arrows])]


def is_closed_in(machine, lot):
    """Return whether lot is closed in machine."""
    return all([is_closed(looks, lot) for looks in looks_on_arrows(machine)])


def closed_in(machine):
    """Return the ascending list of all LOTS that are closed in machine."""
    return [lot for lot in all_lots(places_of(machine)) if is_closed_in(machine, lot)]


def others_of(machine, lot):
    """Return the lot of all places that are not in lot."""
    return tuple([place for place in range(places_of(machine)) if place not in lot])


def outside_along(machine, row, lot):
    """Return the list of the outsides of lot on the way of row."""
    steps, _ = machine
    found = [others_of(machine, lot)]
    for step in row_moves(machine, row):
        found.append(lookers_within(steps[step][0], found[-1]))
    return found


def outside_chase(machine, lot):
    """Return the Chase of the outside of lot, whose goal is (). Raises Unfit() if lot is not closed."""
    machine = frozen(machine)
    if not is_closed_in(machine, lot):
        raise Unfit()
    every = every_lot(places_of(machine))
    tables = [{own: lookers_within(looks, own) for own in every} for looks, _ in machine[0]]
    return Chase(machine, tables, others_of(machine, lot), ())


def free_chase(machine, lot):
    """Return the outside_chase in which all choices are anybody's."""
    return outside_chase(handed_over(machine, ()), lot)


def holds(machine, lot):
    """Return whether lot holds all others in every run."""
    return hold_moves(machine, lot) is not None


def can_hold(machine, lot):
    """Return whether some rule of ours makes lot hold all others."""
    return moves_to_goal(outside_chase(machine, lot)) is not None


def hold_moves(machine, lot):
    """Return the least number of moves behind which the outside is () along each row, None if there is none."""
    return moves_to_goal(free_chase(machine, lot))


def outside_ring(machine, lot):
    """Return a row and a ring behind it along which the outside has what it had."""
    ring = shunning_ring(free_chase(machine, lot))
    if ring is None:
        raise CanNot()
    return ring


def is_outside_ring(machine, lot, thing):
    """Return whether thing is a row and a ring behind it along which the outside has what it had."""
    chase = outside_chase(machine, lot)
    if not is_row_and_ring(chase.machine, thing):
        return False
    row, ring = thing
    outside = lot_behind(chase, row)
    return outside != () and is_part(outside, lot_behind(chase, row + ring))


def hold_plan(machine, lot):
    """Return a HOLD PLAN."""
    plan = reaching_plan(outside_chase(machine, lot))
    if plan is None:
        raise CanNot()
    return plan


def slip_plan(machine, lot):
    """Return a SLIP PLAN."""
    plan = shunning_plan(outside_chase(machine, lot))
    if plan is None:
        raise CanNot()
    return plan


def is_hold_plan(machine, lot, thing):
    """Return whether thing is a HOLD PLAN."""
    return is_reaching_plan(outside_chase(machine, lot), thing)


def is_slip_plan(machine, lot, thing):
    """Return whether thing is a SLIP PLAN."""
    return is_shunning_plan(outside_chase(machine, lot), thing)


def posted_step(step, lot):
    """Return step with the places of lot standing."""
    looks, shares = step
    every = list(range(len(looks)))
    new_looks = tuple([(place,) if place in lot else looks[place] for place in every])
    if shares is None:
        return (new_looks, None)
    return (new_looks, tuple([(UNIT,) if place in lot else shares[place] for place in every]))


def posted(machine, lot):
    """Return the MACHINE in which, in each of its STEPS, the places of lot stand."""
    steps, stands = frozen(machine)
    return (tuple([posted_step(step, lot) for step in steps]), stands)


def least_posts(machine):
    """Return the ascending list of the LOTS that hold all others if they stand, with no other such one within them."""
    every = all_lots(places_of(machine))
    found = [lot for lot in every if holds(posted(machine, lot), lot)]
    return [lot for lot in found if not any([one != lot and is_part(one, lot) for one in found])]
