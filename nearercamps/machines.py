"""Machines: stands, arrows and the rows along them."""

from nearercamps.alike import begin_kind, inner_kinds, numbers_of
from nearercamps.errors import CanNot, NoPlace, TooMuch, Unfit
from nearercamps.plain import frozen, is_filled_tuple, is_number_below, is_tuple_of
from nearercamps.spans import ending_pairs
from nearercamps.steps import is_step
from nearercamps.ways import end_of, inner_order, longer_rows, met_order

MOST_ROWS = 2000


def is_arrow(thing, steps, stands):
    """Return whether thing is an arrow of a MACHINE with so many STEPS and stands."""
    return is_tuple_of(thing, 2) and is_number_below(thing[0], steps) and is_number_below(thing[1], stands)


def is_stand(thing, steps, stands):
    """Return whether thing is an owner and arrows of a MACHINE with so many STEPS and stands."""
    if not is_tuple_of(thing, 2) or thing[0] not in ("ours", "any") or not is_filled_tuple(thing[1]):
        return False
    arrows = thing[1]
    return all([is_arrow(arrow, steps, stands) for arrow in arrows]) and len(set(arrows)) == len(arrows)


def is_machine(thing, n):
    """Return whether thing is a MACHINE for n places."""
    if not is_tuple_of(thing, 2) or not is_filled_tuple(thing[0]) or not is_filled_tuple(thing[1]):
        return False
    steps, stands = thing
    if not all([is_step(step, n) for step in steps]):
        return False
    if not all([is_stand(stand, len(steps), len(stands)) for stand in stands]):
        return False
    reached = met_order(0, [arrows for _, arrows in stands])
    return len(reached) == len(stands) and len(inner_order(stands)) == len(stands) - 1


def places_of(machine):
    """Return the count of the places of machine."""
    steps, _ = machine
    return len(steps[0][0])


def one_round(steps):
    """Return the MACHINE that goes round by steps, stand by stand, owners any."""
    steps = frozen(steps)
    ends = list(range(1, len(steps))) + [0]
    return (steps, tuple([("any", ((k, end),)) for k, end in enumerate(ends)]))


def one_choice(owner, steps):
    """Return the MACHINE with one stand, of this owner, whose arrow k is by the STEP at k."""
    steps = frozen(steps)
    return (steps, ((owner, tuple([(k, 0) for k in range(len(steps))])),))


def choices(machine, owner):
    """Return the set of the choices with this owner."""
    _, stands = machine
    return tuple([k for k, (own, arrows) in enumerate(stands) if own == owner and len(arrows) > 1])


def is_row(machine, stand, thing):
    """Return whether thing is a row from stand."""
    _, stands = machine
    if not isinstance(thing, tuple):
        return False
    for arrow in thing:
        arrows = stands[stand][1]
        if not is_number_below(arrow, len(arrows)):
            return False
        stand = arrows[arrow][1]
    return True


def row_end(machine, stand, row):
    """Return the stand to which row comes from stand."""
    _, stands = machine
    return end_of(stands, stand, row)


def rows_of(machine, stand, many):
    """Return the ascending list of the rows of so many arrows from stand."""
    _, stands = machine
    found = [((), stand)]
    for _ in range(many):
        # Rows only grow in number with their length, so too many now are too many in the end.
        if len(found) > MOST_ROWS:
            raise TooMuch()
        found = longer_rows(stands, found)
    if len(found) > MOST_ROWS:
        raise TooMuch()
    return [row for row, _ in found]


def count_rounds(stands):
    """Return how many rounds there are."""
    counts = {}
    for stand in list(reversed(inner_order(stands))) + [0]:
        # The beginning is not counted yet when it is an end: a round ends there.
        counts[stand] = sum([counts[end] if end != 0 else 1 for _, end in stands[stand][1]])
    return counts[0]


def rounds(machine):
    """Return the ascending list of all rounds."""
    _, stands = machine
    if count_rounds(stands) > MOST_ROWS:
        raise TooMuch()
    ended = []
    going = [((), 0)]
    while going != []:
        longer = longer_rows(stands, going)
        ended = ended + [row for row, end in longer if end == 0]
        going = [(row, end) for row, end in longer if end != 0]
    return sorted(ended)


def round_lengths(machine):
    """Return the pair (least, greatest) of how many arrows rounds have."""
    _, stands = machine
    least = {}
    greatest = {}
    for stand in list(reversed(inner_order(stands))) + [0]:
        ends = [end for _, end in stands[stand][1]]
        least[stand] = 1 + min([least[end] if end != 0 else 0 for end in ends])
        greatest[stand] = 1 + max([greatest[end] if end != 0 else 0 for end in ends])
    return (least[0], greatest[0])


def go_alike(machine, other):
    """Return whether the beginnings of both go alike."""
    known_steps = {}
    known_kinds = {}
    one = begin_kind(frozen(machine), known_steps, known_kinds)
    return one == begin_kind(frozen(other), known_steps, known_kinds)


def stands_as_met(begin, arrows, owners):
    """Return the stands, numbered as met, with these owners and arrows; both have what begin leads to as keys."""
    order = met_order(begin, arrows)
    number = {met: k for k, met in enumerate(order)}
    return tuple([(owners[met], tuple([(step, number[end]) for step, end in arrows[met]])) for met in order])


def steps_as_met(steps, stands):
    """Return the MACHINE of stands in which the STEPS are numbered as arrows meet them, others gone."""
    known = {}
    new_stands = []
    for owner, arrows in stands:
        taken = numbers_of([step for step, _ in arrows], known)
        new_stands.append((owner, tuple([(step, end) for step, (_, end) in zip(taken, arrows)])))
    return (tuple([steps[step] for step in known]), tuple(new_stands))


def each_once(values):
    """Return the list of values in order, of equal ones only the first."""
    return list({value: True for value in values})


def merged(machine):
    """Return the least MACHINE that goes alike."""
    steps, stands = frozen(machine)
    numbers = numbers_of(steps, {})
    kinds = inner_kinds(stands, numbers, {})
    arrows = {}
    owners = {}
    for stand, (owner, own) in enumerate(stands):
        kind = kinds[stand]
        if kind not in arrows:
            arrows[kind] = each_once([(numbers[step], kinds[end]) for step, end in own])
            owners[kind] = owner if len(arrows[kind]) > 1 else "any"
    unlike = each_once(steps)
    return steps_as_met(unlike, stands_as_met(0, arrows, owners))


def renamed_step(step, order):
    """Return the STEP with the place order[p] for p throughout."""
    looks, shares = step
    new_looks = [() for _ in looks]
    rows = [() for _ in looks]
    for place, lot in enumerate(looks):
        seen = sorted([(order[one], at) for at, one in enumerate(lot)])
        new_looks[order[place]] = tuple([one for one, _ in seen])
        if shares is not None:
            rows[order[place]] = tuple([shares[place][at] for _, at in seen])
    return (tuple(new_looks), None if shares is None else tuple(rows))


def renamed(machine, order):
    """Return the MACHINE with the place order[p] for p throughout."""
    steps, stands = frozen(machine)
    return (tuple([renamed_step(step, order) for step in steps]), stands)


def one_after_other(machine, other):
    """Return the MACHINE that goes by a round of machine, then by one of other."""
    steps, stands = frozen(machine)
    other_steps, other_stands = frozen(other)
    if places_of(machine) != places_of(other):
        raise Unfit()
    ahead = len(steps)
    begin = len(stands)
    first = [(owner, tuple([(step, end if end != 0 else begin) for step, end in arrows])) for owner, arrows in stands]
    second = []
    for owner, arrows in other_stands:
        moved = [(ahead + step, begin + end if end != 0 else 0) for step, end in arrows]
        second.append((owner, tuple(moved)))
    return (steps + other_steps, tuple(first + second))


def within_rounds(machine, wants):
    """Return the MACHINE of the rounds in which never so many arrows in a row lack a wanted STEP."""
    steps, stands = frozen(machine)
    wants = frozen(wants)
    for place, _ in wants:
        if not is_number_below(place, len(steps)):
            raise NoPlace(place)
    arrows = ending_pairs(stands, wants)
    begin = (0, (0,) * len(wants))
    if arrows[begin] == []:
        raise CanNot()
    owners = {pair: stands[pair[0]][0] for pair in arrows}
    return (steps, stands_as_met(begin, arrows, owners))
