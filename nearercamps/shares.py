"""Told shares: sums that stay, and the number that all agree upon."""

from nearercamps.blends import end_rows, row_by, table_of_moves
from nearercamps.errors import CanNot, NoPlace, Unfit
from nearercamps.machines import is_row, places_of, row_end
from nearercamps.owners import handed_over
from nearercamps.plain import frozen, is_number_below, is_tuple_of
from nearercamps.quotients import UNIT, divided, total_of, weighed
from nearercamps.runs import evened
from nearercamps.spaces import crossing_basis, less_row, times, with_row
from nearercamps.standing import Standing
from nearercamps.steps import are_rows, is_state, table_of
from nearercamps.together import surely_together
from nearercamps.ways import steps_along

MOST_ARROWS = 800
MOST_BOTTOM = 24


def standing_space(machine, stand):
    """Return the basis of what can stand at stand."""
    machine = frozen(machine)
    if not is_number_below(stand, len(machine[1])):
        raise NoPlace(stand)
    return tuple(Standing(machine).bases[stand])


def kept_basis(standing):
    """Return the basis of all kept rows."""
    crossing = []
    homes = standing.first_home()
    # Numbers are small near home, and often it is seen there already that no row is kept.
    for stand in reversed(standing.order):
        standing.add_home(homes, stand)
        for change in standing.changes(stand, homes):
            crossing = with_row(crossing, change)
        if len(crossing) == standing.n:
            return []
    return crossing_basis(crossing, standing.n)


def kept_sums(machine):
    """Return the basis of all kept rows."""
    return tuple(kept_basis(Standing(frozen(machine))))


def is_in_kept(basis, row):
    """Return whether row is in the space of this basis."""
    return len(with_row(basis, row)) == len(basis)


def stays_kept(machine, row):
    """Return whether the row of n is kept."""
    return is_in_kept(kept_basis(Standing(frozen(machine))), frozen(row))


def rows_home(standing, row):
    """Return the tuple of the rows for all stands whose sums are those by row behind the way home by first arrows."""
    homes = standing.tables_home()
    return tuple([row_by(row, homes[stand]) for stand in range(len(standing.stands))])


def kept_rows(machine, row):
    """Return rows for all stands by which the sum is the same all the way, row itself for the beginning."""
    standing = Standing(frozen(machine))
    row = frozen(row)
    if not is_in_kept(kept_basis(standing), row):
        raise CanNot()
    return rows_home(standing, row)


def stays_by_moves(standing, rows, stand):
    """Return whether the sums by rows stay the same in each move from stand."""
    for state in standing.bases[stand]:
        before = weighed(rows[stand], state)
        for arrow, (_, end) in enumerate(standing.stands[stand][1]):
            if not all([weighed(rows[end], going) == before for going in standing.moved(stand, arrow, state)]):
                return False
    return True


def is_kept_rows(machine, row, thing):
    """Return whether thing is rows for all stands by which the sum is the same all the way, row being the first."""
    machine = frozen(machine)
    n = places_of(machine)
    if not is_tuple_of(thing, len(machine[1])) or not all([is_state(own, n) for own in thing]):
        return False
    if thing[0] != frozen(row):
        return False
    standing = Standing(machine)
    return all([stays_by_moves(standing, thing, stand) for stand in range(len(thing))])


def refuse_apart(machine):
    """Raise Unfit() if not all runs come together."""
    if not surely_together(handed_over(machine, ())):
        raise Unfit()


def agreed_sum(machine):
    """Return the kept row with 1 in all."""
    refuse_apart(machine)
    basis = kept_sums(machine)
    if basis == ():
        raise CanNot()
    # All kept rows are multiples of this one, whose sum is not 0: all numbers come to one in which it counts.
    return times(basis[0], divided(UNIT, total_of(basis[0])))


def have_small_bottoms(rows):
    """Return whether the bottoms of shares are small enough for a LOOP."""
    return all([bottom <= MOST_BOTTOM for row in rows for _, bottom in row])


def are_loop_shares(steps, thing):
    """Return whether thing is rows for each of steps, told ones as they are told, others with small bottoms."""
    if not is_tuple_of(thing, len(steps)):
        return False
    for (looks, shares), rows in zip(steps, thing):
        if not are_rows(rows, looks):
            return False
        if (shares is None and not have_small_bottoms(rows)) or (shares is not None and shares != rows):
            return False
    return True


def steps_of_row(machine, stand, row):
    """Return the list of the STEPS of row from stand."""
    steps, stands = machine
    return [steps[step] for step in steps_along(stands, stand, row)]


def is_short_row(machine, stand, thing):
    """Return whether thing is a row from stand, short enough for a LOOP."""
    return isinstance(thing, tuple) and len(thing) <= MOST_ARROWS and is_row(machine, stand, thing)


def is_loop(machine, thing):
    """Return whether thing is a LOOP."""
    machine = frozen(machine)
    if not is_tuple_of(thing, 4) or not is_short_row(machine, 0, thing[0]):
        return False
    row, shares, ring, turns = thing
    end = row_end(machine, 0, row)
    if not is_short_row(machine, end, ring) or ring == () or row_end(machine, end, ring) != end:
        return False
    return are_loop_shares(steps_of_row(machine, 0, row), shares) \
        and are_loop_shares(steps_of_row(machine, end, ring), turns)


def moves_by(steps, shares):
    """Return the list of the pairs (looks, shares) of moves by steps."""
    return [(looks, rows) for (looks, _), rows in zip(steps, shares)]


def end_of_loop(machine, loop):
    """Return the row by whose sum of the start the run of a LOOP comes together, None if it does not from each."""
    row, shares, ring, turns = loop
    n = places_of(machine)
    ahead = table_of_moves(n, moves_by(steps_of_row(machine, 0, row), shares))
    end = row_end(machine, 0, row)
    round_table = table_of_moves(n, moves_by(steps_of_row(machine, end, ring), turns))
    sums = [row_by(one, ahead) for one in end_rows(round_table)]
    return sums[0] if all([one == sums[0] for one in sums]) else None


def loop_sum(machine, loop):
    """Return the row by whose sum of the start the run of a LOOP comes together, from each start."""
    row = end_of_loop(frozen(machine), frozen(loop))
    if row is None:
        raise CanNot()
    return row


def bending_move(standing, rows):
    """Return a stand, an arrow, shares, and a row that is felt there: how much the sum by rows changes in this move.

    In all moves ahead of that stand the sum stays the same. Some move changes it, rows being none of a kept one.
    """
    for stand in standing.order:
        for arrow, (step, end) in enumerate(standing.stands[stand][1]):
            for shares in standing.tried[step]:
                behind = row_by(rows[end], table_of((standing.steps[step][0], shares)))
                change = less_row(behind, rows[stand])
                if standing.is_felt(stand, change):
                    return stand, arrow, shares, change
    return None


def unlike_loop(standing, weights):
    """Return a LOOP by whose round the sum by weights, which is no kept row, does not stay."""
    stand, arrow, shares, change = bending_move(standing, rows_home(standing, weights))
    row, ahead = standing.way_felt(stand, change)
    _, end = standing.stands[stand][1][arrow]
    ring = row + (arrow,) + standing.row_home(end)
    return ((), (), ring, ahead + (shares,) + standing.shares_home(end))


def first_loop(standing):
    """Return the LOOP that goes by first arrows and, where none are told, equal shares."""
    step, end = standing.stands[0][1][0]
    begin = (evened(standing.steps[step])[1],)
    return ((), (), (0,) + standing.row_home(end), begin + standing.shares_home(end))


def two_ends(machine):
    """Return a pair of LOOPS that come together from each start, by unlike sums."""
    machine = frozen(machine)
    refuse_apart(machine)
    standing = Standing(machine)
    if kept_basis(standing) != []:
        raise CanNot()
    loop = first_loop(standing)
    return (loop, unlike_loop(standing, end_of_loop(machine, loop)))


def is_two_ends(machine, thing):
    """Return whether thing is a pair of LOOPS that come together from each start, by unlike sums."""
    if not is_tuple_of(thing, 2) or not all([is_loop(machine, loop) for loop in thing]):
        return False
    sums = [end_of_loop(frozen(machine), loop) for loop in thing]
    return None not in sums and sums[0] != sums[1]
