"""What can stand at the stands of a MACHINE, and ways home from there.

Of untold shares so few are looked at here that sums of multiples of them, 1 in all, are all others.
"""

from nearercamps.blends import row_by
from nearercamps.quotients import lowest, weighed
from nearercamps.runs import evened
from nearercamps.spaces import less_row, unit_rows, with_row
from nearercamps.steps import even_step, mixed, table_of
from nearercamps.ways import inner_order, steps_along


def bent_row(count, most):
    """Return shares for a LOT of so many places, twice as much for that at most as for any other one."""
    return tuple([lowest(2 if k == most else 1, count + 1) for k in range(count)])


def shares_tried(step):
    """Return the list of the told shares of step alone, of equal and some other ones if it tells none."""
    looks, shares = step
    if shares is not None:
        return [shares]
    even = even_step(looks)[1]
    found = [even]
    for place, lot in enumerate(looks):
        for most in range(len(lot) - 1):
            found.append(even[:place] + (bent_row(len(lot), most),) + even[place + 1:])
    return found


def seen_by(table, state):
    """Return the STATE behind a move by table."""
    return tuple([weighed(row, state) for row in table])


def tables_home(steps, stands):
    """Return a dict of the TABLE of the way home from each stand, by first arrows, told shares or equal ones."""
    homes = {0: tuple(unit_rows(len(steps[0][0])))}
    for stand in reversed(inner_order(stands)):
        step, end = stands[stand][1][0]
        table = table_of(evened(steps[step]))
        homes[stand] = tuple([row_by(row, table) for row in homes[end]])
    return homes


class Standing:
    """States that can stand at each stand of a MACHINE, as many as it takes to make all others of them.

    states has a list for each stand of triples (state, row, shares): by shares row leads a state with 1 at one place
    and 0 elsewhere to that state. homes has the tables_home.
    """

    def __init__(self, machine):
        steps, stands = machine
        self.steps = steps
        self.stands = stands
        self.n = len(steps[0][0])
        self.tried = [shares_tried(step) for step in steps]
        self.states = [[] for _ in stands]
        self.bases = [[] for _ in stands]
        self.fill()
        self.homes = tables_home(steps, stands)

    def fill(self):
        """Find the states of all stands, from the beginning on."""
        order = []
        for unit in unit_rows(self.n):
            self.take(0, (unit, (), ()), order)
        at = 0
        while at < len(order):
            stand, found = order[at]
            for arrow, (_, end) in enumerate(self.stands[stand][1]):
                if len(self.bases[end]) < self.n:
                    self.lead_on(stand, found, arrow, order)
            at += 1

    def lead_on(self, stand, found, arrow, order):
        """Take what an arrow of stand leads one of its states to."""
        _, row, shares = found
        _, end = self.stands[stand][1][arrow]
        for going, rows in self.moves(stand, found[0], arrow):
            self.take(end, (going, row + (arrow,), shares + (rows,)), order)

    def take(self, stand, found, order):
        """Keep a state of stand with its way, and put it behind order, if it is not made of those that are there."""
        wider = with_row(self.bases[stand], found[0])
        if len(wider) > len(self.bases[stand]):
            self.bases[stand] = wider
            self.states[stand].append(found)
            order.append((stand, found))

    def moves(self, stand, state, arrow):
        """Return the list of the pairs of a state to which an arrow of stand leads one, and shares by which it does."""
        step, _ = self.stands[stand][1][arrow]
        looks, _ = self.steps[step]
        found = {}
        for shares in self.tried[step]:
            going = mixed(looks, shares, state)
            if going not in found:
                found[going] = shares
        return list(found.items())

    def home_row(self, stand):
        """Return the row of first arrows from stand to the next coming to the beginning, () from there."""
        row = ()
        while stand != 0:
            _, stand = self.stands[stand][1][0]
            row = row + (0,)
        return row

    def home_shares(self, stand):
        """Return the shares of the moves of home_row, told or equal ones."""
        moves = steps_along(self.stands, stand, self.home_row(stand))
        return tuple([evened(self.steps[step])[1] for step in moves])

    def changes(self, stand):
        """Return the list of what moves from stand change of a state, as they can be seen at home.

        Each is a quadruple of a row of n, 0 in all sums that stay, of what is in states, an arrow, and its shares.
        """
        found = []
        for own in self.states[stand]:
            seen = seen_by(self.homes[stand], own[0])
            for arrow, (_, end) in enumerate(self.stands[stand][1]):
                for going, shares in self.moves(stand, own[0], arrow):
                    found.append((less_row(seen_by(self.homes[end], going), seen), own, arrow, shares))
        return found

