"""PLANS: programs with names, and the MACHINES that they are."""

from nearercamps.deeds import are_deeds, begins_with_move, laid_out, stands_of, written
from nearercamps.errors import TooMuch
from nearercamps.machines import places_of, within_rounds
from nearercamps.names import are_names, are_unlike, first_names, is_name
from nearercamps.plain import frozen, is_filled_tuple, is_number, is_rising, is_tuple_of
from nearercamps.runs import row_moves
from nearercamps.steps import is_step

MOST_STANDS = 60
MOST_ARROWS = 200
MOST_INNER_ROWS = 25


def is_named(thing):
    """Return whether thing is a pair of a NAME and something."""
    return is_tuple_of(thing, 2) and is_name(thing[0])


def beginnings(pieces, steps):
    """Return a dict that tells, for the name of each piece, whether its deeds begin with a move.

    None if the deeds of some are none, or call it itself or a later one; steps has the names of the STEPS.
    """
    begins = {}
    for name, deeds in pieces:
        if not are_deeds(deeds, steps, begins):
            return None
        begins[name] = begins_with_move(deeds, begins)
    return begins


def is_within(thing, steps):
    """Return whether thing is what within may be; steps has names of STEPS."""
    if not isinstance(thing, tuple) or not all([is_named(pair) and pair[0] in steps for pair in thing]):
        return False
    return all([is_number(many) and many >= 1 for _, many in thing]) and is_rising([name for name, _ in thing])


def is_plan(thing):
    """Return whether thing is a PLAN."""
    if not is_tuple_of(thing, 5) or not are_names(thing[0]):
        return False
    places, steps, pieces, deeds, within = thing
    if not is_filled_tuple(steps) or not isinstance(pieces, tuple):
        return False
    if not all([is_named(own) for own in steps + pieces]) or not are_unlike([name for name, _ in steps + pieces]):
        return False
    if not all([is_step(step, len(places)) for _, step in steps]):
        return False
    names = {name: True for name, _ in steps}
    begins = beginnings(pieces, names)
    return begins is not None and are_deeds(deeds, names, begins) and is_within(within, names)


def refuse_too_many_stands(pieces, deeds):
    """Raise TooMuch() if deeds, with these pieces, have more than 60 stands."""
    sizes = {}
    for name, own in pieces:
        sizes[name] = stands_of(own, sizes)
    if stands_of(deeds, sizes) > MOST_STANDS:
        raise TooMuch()


def written_out(plan):
    """Return the PLAN written out, without pieces."""
    places, steps, pieces, deeds, within = frozen(plan)
    refuse_too_many_stands(pieces, deeds)
    known = {name: own for name, own in pieces}
    return (places, steps, (), written(deeds, known), within)


def machine_of(plan):
    """Return the MACHINE of plan."""
    _, steps, _, deeds, within = written_out(plan)
    place = {name: k for k, (name, _) in enumerate(steps)}
    stands = tuple(laid_out(deeds, 0, 0, place))
    if sum([len(arrows) for _, arrows in stands]) > MOST_ARROWS:
        raise TooMuch()
    machine = (tuple([step for _, step in steps]), stands)
    if within == ():
        return machine
    return within_rounds(machine, [(place[name], many) for name, many in within])


def step_names(plan, row):
    """Return the list of the NAMES of the STEPS of a row from the beginning."""
    _, steps, _, _, _ = frozen(plan)
    return [steps[step][0] for step in row_moves(machine_of(plan), row)]


def refuse_many_rows(stands):
    """Raise TooMuch() if the rows from the beginning to its next coming are more than plan_of writes down."""
    inner = [0]
    arrows_met = 0
    at = 0
    while at < len(inner):
        arrows = stands[inner[at]][1]
        arrows_met += len(arrows)
        inner = inner + [end for _, end in arrows if end != 0]
        if len(inner) > MOST_INNER_ROWS or arrows_met > MOST_ARROWS:
            raise TooMuch()
        at += 1


def unfolded(stands, stand, names):
    """Return the deeds from stand to the next coming to the beginning; names has the NAMES of the STEPS."""
    owner, arrows = stands[stand]
    branches = []
    for step, end in arrows:
        branches.append((("step", names[step]),) + (() if end == 0 else unfolded(stands, end, names)))
    if len(branches) == 1:
        return branches[0]
    return (("ours" if owner == "ours" else "anybody", tuple(branches)),)


def plan_of(machine):
    """Return a PLAN whose MACHINE goes alike with machine."""
    steps, stands = frozen(machine)
    refuse_many_rows(stands)
    n = places_of(machine)
    names = first_names(n + len(steps))
    deeds = unfolded(stands, 0, names[n:])
    return (tuple(names[:n]), tuple(zip(names[n:], steps)), (), deeds, ())
