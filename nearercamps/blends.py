"""TABLES of many moves, counted in whole numbers, and what comes of them if they are gone again and again."""

from math import lcm

from nearercamps.looks import least_closed, period_of, way_lengths
from nearercamps.quotients import NOUGHT, divided, lowest, minus, multiplied, total_of, weighed
from nearercamps.spaces import basis_of, crossing_basis


def whole_rows(looks, shares):
    """Return a bottom, and for each place the list of pairs (place seen, share times bottom)."""
    bottom = 1
    for row in shares:
        for _, below in row:
            bottom = lcm(bottom, below)
    return bottom, [[(seen, top * (bottom // below)) for seen, (top, below) in zip(lot, row)]
                    for lot, row in zip(looks, shares)]


def table_of_moves(n, moves):
    """Return the TABLE of moves, pairs (looks, shares), one after another; all keep still if there are none."""
    done = [[1 if one == place else 0 for one in range(n)] for place in range(n)]
    bottom = 1
    # One bottom for all and no lowest terms on the way: many moves stay quick.
    for looks, shares in moves:
        below, rows = whole_rows(looks, shares)
        bottom = bottom * below
        done = [[sum([top * done[seen][one] for seen, top in row]) for one in range(n)] for row in rows]
    return tuple([tuple([lowest(top, bottom) for top in row]) for row in done])


def row_by(row, table):
    """Return the row of n whose sum of a STATE is that of row behind a move by table."""
    return tuple([weighed(row, [own[place] for own in table]) for place in range(len(table))])


def looks_of_table(table):
    """Return the LOOKS of a told STEP with this TABLE."""
    return tuple([tuple([place for place, share in enumerate(row) if share != NOUGHT]) for row in table])


def lasting_weights(table, lot):
    """Return the list of the weights, 1 in all, of a least closed LOT that a move by table leaves as they are."""
    rows = []
    for one in lot:
        rows.append(tuple([minus(table[place][one], (1 if place == one else 0, 1)) for place in lot]))
    weights = crossing_basis(basis_of(rows), len(lot))[0]
    total = total_of(weights)
    return [divided(weight, total) for weight in weights]


def end_rows(table):
    """Return the list of the rows of n whose sums of a STATE are all equal exactly if it comes together by table.

    This is so if table is gone for ever; the sums are the number to which all come then. There is one row for each part
    of a least closed LOT that has each so many moves the same numbers in view.
    """
    looks = looks_of_table(table)
    found = []
    for lot in least_closed(looks):
        period = period_of(looks, lot)
        lengths = way_lengths(looks, lot[0])
        weights = lasting_weights(table, lot)
        for turn in range(period):
            row = [NOUGHT for _ in table]
            for place, weight in zip(lot, weights):
                if lengths[place] % period == turn:
                    row[place] = multiplied(weight, (period, 1))
            found.append(tuple(row))
    return found
