"""Plain counting for section 20: spaces of rows, drawn ways by drawn shares, and where LOOPS lead, by numbers."""

from fractions import Fraction

from tests import plain_machines as plain
from tests import plain_steps


def basis(rows):
    """Return the basis of the space of rows of Fractions, as FRACTIONS."""
    left, done = [list(row) for row in rows], []
    for place in range(len(left[0]) if left else 0):
        heads = [row for row in left if row[place] != 0]
        if heads:
            head = [number / heads[0][place] for number in heads[0]]
            left = [row for row in left if row is not heads[0]]
            for own in left + done:
                own[:] = [number - own[place] * one for number, one in zip(own, head)]
            done.append(head)
    done.sort(key=lambda row: [k for k, number in enumerate(row) if number != 0][0])
    return tuple(tuple(plain_steps.pair_of(number) for number in row) for row in done)


def crossing(rows, n):
    """Return the basis of the rows of n whose sums of all rows are 0, by trying in how many ways each can be."""
    told = basis(rows)
    heads = [[k for k, pair in enumerate(row) if pair != (0, 1)][0] for row in told]
    found = []
    for free in set(range(n)) - set(heads):
        row = [Fraction(0)] * n
        row[free] = Fraction(1)
        for head, own in zip(heads, told):
            row[head] = -Fraction(*own[free])
        found.append(row)
    return basis(found)


def draw_shares(rng, step):
    """Return the told shares, or drawn ones with bottoms of at most 24."""
    return step[1] or tuple(plain_steps.draw_row(rng, len(lot)) if len(lot) < 5 else ((1, len(lot)),) * len(lot)
                            for lot in step[0])


def draw_way(rng, own, begin, many):
    """Return a drawn row of at most so many arrows, its shares, and the stand to which it comes."""
    row, shares, k = [], [], begin
    for _ in range(many):
        row.append(rng.randrange(len(own[1][k][1])))
        step, k = own[1][k][1][row[-1]]
        shares.append(draw_shares(rng, own[0][step]))
    return tuple(row), tuple(shares), k


def home(rng, own, begin):
    """Return a drawn row from a stand, not (), to the next coming to the beginning, and its shares."""
    row, shares, k = (), (), begin
    while row == () or k != 0:
        arrow, rows, k = draw_way(rng, own, k, 1)
        row, shares = row + arrow, shares + rows
    return row, shares


def matrix(own, begin, row, shares):
    """Return the table of Fractions of a row by these shares."""
    n = len(own[0][0][0])
    columns = []
    for place in range(n):
        numbers = [Fraction(int(k == place)) for k in range(n)]
        for step, rows in zip(plain.way(own, begin, row)[0], shares):
            numbers = plain_steps.move(own[0][step][0], rows, numbers)
        columns.append(numbers)
    return [[columns[q][p] for q in range(n)] for p in range(n)]


def applied(row, table):
    """Return the row of Fractions times the table."""
    return [sum(row[k] * table[k][q] for k in range(len(row))) for q in range(len(row))]


def product(first, second):
    return [[sum(a * b for a, b in zip(row, column)) for column in zip(*second)] for row in first]


def loop_end(own, loop):
    """Return, in floats, the row to whose sum the run of a LOOP comes, None if it does not from each start."""
    row, shares, ring, turns = loop
    ahead = matrix(own, 0, row, shares)
    turn = matrix(own, plain.way(own, 0, row)[1][-1], ring, turns)
    power = [[float(number) for number in line] for line in turn]
    for _ in range(16):
        power = product(power, power)
    # 60 is a number that each period of at most 6 places divides.
    far = power
    for _ in range(59):
        far = product(far, power)
    far = product(far, [[float(number) for number in line] for line in ahead])
    if max(max(column) - min(column) for column in zip(*far)) > 1e-7:
        return None
    return far[0]


def loop(own, thing):
    """Return whether thing is a LOOP."""
    if type(thing) is not tuple or len(thing) != 4:
        return False
    row, shares, ring, turns = thing
    if not plain.row(own, 0, row) or len(row) > 800:
        return False
    stand = plain.way(own, 0, row)[1][-1]
    if not plain.row(own, stand, ring) or not 0 < len(ring) <= 800 or plain.way(own, stand, ring)[1][-1] != stand:
        return False
    for begin, way, rows in ((0, row, shares), (stand, ring, turns)):
        if type(rows) is not tuple or len(rows) != len(way):
            return False
        for step, told in zip(plain.way(own, begin, way)[0], rows):
            looks, own_shares = own[0][step]
            if not plain_steps.rows_for(told, looks) or (own_shares is not None and told != own_shares):
                return False
            if own_shares is None and any(bottom > 24 for lot in told for _, bottom in lot):
                return False
    return True
