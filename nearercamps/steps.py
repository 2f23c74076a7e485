"""Steps in numbers: means of what places look at, by told or untold shares."""

from nearercamps.errors import CanNot, Unfit
from nearercamps.looks import is_looks
from nearercamps.plain import frozen, is_tuple_of
from nearercamps.quotients import NOUGHT, UNIT, divided, greatest_at, is_fraction, is_less, least_at, minus, multiplied
from nearercamps.quotients import plus, total_of, weighed


def is_row_of(thing, count):
    """Return whether thing is a tuple of so many FRACTIONS above 0, 1 in all."""
    if not is_tuple_of(thing, count) or not all([is_fraction(share) and share[0] > 0 for share in thing]):
        return False
    return total_of(thing) == UNIT


def are_rows(thing, looks):
    """Return whether thing is what shares of a STEP with these LOOKS can be."""
    if not is_tuple_of(thing, len(looks)):
        return False
    return all([is_row_of(row, len(lot)) for row, lot in zip(thing, looks)])


def is_step(thing, n):
    """Return whether thing is a STEP for n places."""
    if not is_tuple_of(thing, 2) or not is_looks(thing[0], n):
        return False
    return thing[1] is None or are_rows(thing[1], thing[0])


def is_state(thing, n):
    """Return whether thing is a STATE for n places."""
    return is_tuple_of(thing, n) and all([is_fraction(number) for number in thing])


def is_table_row(thing, n):
    """Return whether thing is a tuple of n FRACTIONS of at least 0, 1 in all."""
    return is_state(thing, n) and all([share[0] >= 0 for share in thing]) and total_of(thing) == UNIT


def is_table(thing, n):
    """Return whether thing is a TABLE for n places."""
    return is_tuple_of(thing, n) and all([is_table_row(row, n) for row in thing])


def free_step(looks):
    """Return the STEP with these LOOKS and untold shares."""
    return (frozen(looks), None)


def even_step(looks):
    """Return the STEP with these LOOKS and equal told shares."""
    looks = frozen(looks)
    return (looks, tuple([((1, len(lot)),) * len(lot) for lot in looks]))


def told(step):
    """Return the LOOKS and the told shares of a STEP."""
    looks, shares = frozen(step)
    if shares is None:
        raise Unfit()
    return looks, shares


def seen_numbers(lot, state):
    """Return the list of the numbers of the places of lot."""
    return [state[place] for place in lot]


def mixed(looks, shares, state):
    """Return the STATE behind a move by these shares."""
    return tuple([weighed(row, seen_numbers(lot, state)) for lot, row in zip(looks, shares)])


def moved(step, state):
    """Return the STATE behind a move by the told shares."""
    looks, shares = told(step)
    return mixed(looks, shares, state)


def moved_by(step, shares, state):
    """Return the STATE behind a move by these shares."""
    looks, own = frozen(step)
    rows = frozen(shares)
    if not are_rows(rows, looks) or (own is not None and own != rows):
        raise Unfit()
    return mixed(looks, rows, state)


def spread_of(state):
    """Return the greatest number of state less its least one."""
    return minus(state[greatest_at(state)], state[least_at(state)])


def least_told(shares):
    """Return the least of told shares."""
    every = [share for row in shares for share in row]
    return every[least_at(every)]


def can_keep(step, d):
    """Return whether some move of step keeps to d."""
    looks, shares = step
    if shares is not None:
        return not is_less(least_told(shares), d)
    return all([not is_less((1, len(lot)), d) for lot in looks])


def free_share(count, d):
    """Return what is left of 1 behind so many shares of d."""
    return minus(UNIT, multiplied((count, 1), d))


def free_range(numbers, d):
    """Return the least and the greatest mean of numbers, no share being less than d."""
    rest = free_share(len(numbers), d)
    sure = multiplied(d, total_of(numbers))
    least = plus(sure, multiplied(rest, numbers[least_at(numbers)]))
    greatest = plus(sure, multiplied(rest, numbers[greatest_at(numbers)]))
    return (least, greatest)


def move_ranges(step, state, d):
    """Return the list of pairs (least, greatest) of what each place can come to by a move that keeps to d."""
    looks, shares = step
    if not can_keep(step, d):
        raise Unfit()
    if shares is not None:
        return [(number, number) for number in mixed(looks, shares, state)]
    return [free_range(seen_numbers(lot, state), d) for lot in looks]


def is_mean(step, state, other, d):
    """Return whether some move of step that keeps to d leads state to other."""
    if not can_keep(step, d):
        return False
    for number, (least, greatest) in zip(other, move_ranges(step, state, d)):
        if is_less(number, least) or is_less(greatest, number):
            return False
    return True


def free_row(numbers, mean, d):
    """Return shares, none less than d, by which numbers have this mean in their free_range."""
    low, high = least_at(numbers), greatest_at(numbers)
    rest = free_share(len(numbers), d)
    # All that is not bound by d goes to the least and the greatest number: high's part lifts the mean by span.
    span = minus(numbers[high], numbers[low])
    part = NOUGHT
    if span != NOUGHT:
        part = divided(minus(mean, free_range(numbers, d)[0]), span)
    row = [d for _ in numbers]
    row[high] = plus(row[high], part)
    row[low] = plus(row[low], minus(rest, part))
    return tuple(row)


def shares_for(step, state, other, d):
    """Return rows by which a move of step that keeps to d leads state to other."""
    looks, shares = frozen(step)
    if not is_mean(step, state, other, d):
        raise CanNot()
    if shares is not None:
        return shares
    return tuple([free_row(seen_numbers(lot, state), mean, frozen(d)) for lot, mean in zip(looks, other)])


def table_row(lot, row, n):
    """Return the row of n FRACTIONS with these shares at the places of lot, 0 elsewhere."""
    shares = [NOUGHT for _ in range(n)]
    for place, share in zip(lot, row):
        shares[place] = share
    return tuple(shares)


def table_of(step):
    """Return the TABLE of the told shares."""
    looks, shares = told(step)
    return tuple([table_row(lot, row, len(looks)) for lot, row in zip(looks, shares)])


def step_of(table):
    """Return the told STEP whose table_of is table."""
    rows = frozen(table)
    looks = tuple([tuple([place for place, share in enumerate(row) if share != NOUGHT]) for row in rows])
    return (looks, tuple([tuple([share for share in row if share != NOUGHT]) for row in rows]))


def row_step(steps):
    """Return the told STEP of the moves by steps, one after another."""
    tables = [table_of(step) for step in steps]
    done = tables[0]
    for table in tables[1:]:
        columns = [[row[place] for row in done] for place in range(len(done))]
        done = tuple([tuple([weighed(row, column) for column in columns]) for row in table])
    return step_of(done)


def least_share(step):
    """Return the least told share."""
    return least_told(told(step)[1])
