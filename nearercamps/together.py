"""Together, by a rule of ours: papers for it and against it."""

from nearercamps.camps import is_camps
from nearercamps.errors import Unfit
from nearercamps.fates import all_can_die
from nearercamps.games import are_kill_ranks, is_keeping_table, kill_ranks
from nearercamps.hunt import Hunt
from nearercamps.machines import choices, is_row, places_of, round_lengths, row_end
from nearercamps.plain import frozen, is_tuple_of
from nearercamps.ranks import spot_ranks
from nearercamps.splits import every_camps, led_by, lie_within
from nearercamps.ways import steps_along


def begin_camps_kept(machine, ranks):
    """Return the list of the CAMPS without a rank at the beginning, ascending."""
    return [camps for camps in every_camps(places_of(machine)) if ranks[(0, camps)] is None]


def surely_together(machine):
    """Return whether some rule of ours brings each run that follows it together."""
    return all_can_die(frozen(machine))


def our_paper(machine):
    """Return kill_ranks(machine) if that is OUR PAPER, None otherwise."""
    if not surely_together(machine):
        return None
    return kill_ranks(machine)


def is_our_paper(machine, thing):
    """Return whether thing is OUR PAPER."""
    if not are_kill_ranks(machine, thing):
        return False
    named = {(stand, camps): True for stand, camps, _ in thing}
    return all([(0, camps) in named for camps in every_camps(places_of(machine))])


def their_paper(machine):
    """Return THEIR PAPER, None if there is none."""
    machine = frozen(machine)
    ranks = spot_ranks(machine)
    kept = begin_camps_kept(machine, ranks)
    if kept == []:
        return None
    return (kept[0], tuple([spot for spot, rank in ranks.items() if rank is None]))


def is_their_paper(machine, thing):
    """Return whether thing is THEIR PAPER."""
    if not is_tuple_of(thing, 2) or not is_camps(thing[0], places_of(machine)):
        return False
    return is_keeping_table(machine, thing[1]) and (0, thing[0]) in thing[1]


def refuse_choices_of_ours(machine):
    """Raise Unfit() if some choice is ours."""
    if choices(machine, "ours") != ():
        raise Unfit()


def kept_arrows(machine, ranks, stand, camps):
    """Return the list of the arrows of stand that lead camps to spots without a rank, each with that spot."""
    steps, stands = machine
    kept = []
    for k, (step, end) in enumerate(stands[stand][1]):
        going = led_by(steps[step][0], camps)
        if going is not None and ranks[(end, going)] is None:
            kept.append((k, (end, going)))
    return kept


def kept_round(machine, ranks, camps):
    """Return the row of kept arrows from the beginning to its next coming, and what camps are led to."""
    row = []
    stand = 0
    while row == [] or stand != 0:
        arrow, (stand, camps) = kept_arrows(machine, ranks, stand, camps)[0]
        row.append(arrow)
    return row, camps


def camp_ring(machine):
    """Return a RING, None if there is none."""
    machine = frozen(machine)
    refuse_choices_of_ours(machine)
    ranks = spot_ranks(machine)
    kept = begin_camps_kept(machine, ranks)
    if kept == []:
        return None
    met = []
    rows = []
    camps = kept[0]
    # Kept CAMPS come back in the end, as there are finitely many of them.
    while camps not in met:
        met.append(camps)
        row, camps = kept_round(machine, ranks, camps)
        rows.append(row)
    return (camps, tuple([arrow for row in rows[met.index(camps):] for arrow in row]))


def is_kept_within(machine, row, camps):
    """Return whether row leads camps to CAMPS that they are within."""
    steps, stands = machine
    going = camps
    for step in steps_along(stands, 0, row):
        going = led_by(steps[step][0], going)
        if going is None:
            return False
    return lie_within(camps, going)


def is_camp_ring(machine, thing):
    """Return whether thing is a RING."""
    machine = frozen(machine)
    refuse_choices_of_ours(machine)
    if not is_tuple_of(thing, 2) or not is_camps(thing[0], places_of(machine)):
        return False
    camps, row = thing
    if not is_row(machine, 0, row) or row == () or row_end(machine, 0, row) != 0:
        return False
    return is_kept_within(machine, row, camps)


def rule_arrow(machine, paper, row):
    """Return the arrow that the rule of OUR PAPER takes behind row."""
    hunt = Hunt(frozen(machine), frozen(paper))
    for arrow in row:
        hunt.take(arrow)
    if not hunt.is_our_choice():
        raise Unfit()
    return hunt.arrow()


def rule_span(machine, paper):
    """Return within how many moves all CAMPS in view die, by the rule of OUR PAPER."""
    count = len(every_camps(places_of(machine)))
    if count == 0:
        return 0
    greatest = max([rank for stand, _, rank in frozen(paper) if stand == 0])
    return count * (greatest + round_lengths(machine)[1])
