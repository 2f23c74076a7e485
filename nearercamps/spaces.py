"""Spaces of rows of FRACTIONS, told by their bases.

A basis is a list of rows here, in the order of the places of their first FRACTIONS that are not 0: these are 1, and all
other rows have 0 there.
"""

from nearercamps.quotients import NOUGHT, UNIT, divided, minus, multiplied


def unit_rows(n):
    """Return the basis of all rows of n."""
    return [tuple([UNIT if one == place else NOUGHT for one in range(n)]) for place in range(n)]


def first_place(row):
    """Return the place of the first FRACTION of row that is not 0, None if there is none."""
    for place, number in enumerate(row):
        if number != NOUGHT:
            return place
    return None


def times(row, factor):
    """Return row with each number multiplied by factor."""
    return tuple([multiplied(number, factor) for number in row])


def less_row(row, other):
    """Return row less other."""
    return tuple([minus(number, one) for number, one in zip(row, other)])


def cleared(row, basis):
    """Return row less multiples of those of basis, with 0 at their first places."""
    for one in basis:
        factor = row[first_place(one)]
        if factor != NOUGHT:
            row = less_row(row, times(one, factor))
    return row


def with_row(basis, row):
    """Return the basis of the space of basis and row, basis itself if row is in it."""
    new = cleared(row, basis)
    place = first_place(new)
    if place is None:
        return basis
    new = times(new, divided(UNIT, new[place]))
    ahead = [cleared(one, [new]) for one in basis if first_place(one) < place]
    return ahead + [new] + [one for one in basis if first_place(one) > place]


def basis_of(rows):
    """Return the basis of the space of all sums of multiples of rows."""
    basis = []
    for row in rows:
        basis = with_row(basis, row)
    return basis


def crossing_basis(basis, n):
    """Return the basis of the rows of n whose sums of all rows of basis are 0."""
    firsts = [first_place(row) for row in basis]
    found = []
    for free in [place for place in range(n) if place not in firsts]:
        row = [UNIT if place == free else NOUGHT for place in range(n)]
        for place, one in zip(firsts, basis):
            row[place] = minus(NOUGHT, one[free])
        found.append(tuple(row))
    return basis_of(found)
