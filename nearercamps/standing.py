"""What can stand at the stands of a MACHINE, and what moves make of it as it is seen from home, the beginning.

Of untold shares so few are looked at here that sums of multiples of them, 1 in all, are all others.
"""

from nearercamps.blends import row_by
from nearercamps.machines import each_once
from nearercamps.quotients import NOUGHT, lowest, weighed
from nearercamps.runs import evened
from nearercamps.spaces import less_row, unit_rows, with_row
from nearercamps.steps import even_step, mixed, table_of
from nearercamps.ways import inner_order, steps_along


def bent_row(count, most):
    """Return shares for a LOT of so many places, twice as much for that at most as for any other one."""
    return tuple([lowest(2 if k == most else 1, count + 1) for k in range(count)])


def shares_tried(step):
    """Return the list of the told shares of step alone, of equal and some other ones if it tells none."""
    looks, shares = step
    if shares is not None:
        return [shares]
    even = even_step(looks)[1]
    found = [even]
    for place, lot in enumerate(looks):
        for most in range(len(lot) - 1):
            found.append(even[:place] + (bent_row(len(lot), most),) + even[place + 1:])
    return found


def seen_by(table, state):
    """Return the STATE behind a move by table."""
    return tuple([weighed(row, state) for row in table])


class Standing:
    """The bases of what can stand at each stand of a MACHINE.

    order has all stands, the beginning first, each behind all others from which arrows lead to it.
    """

    def __init__(self, machine):
        steps, stands = machine
        self.steps = steps
        self.stands = stands
        self.n = len(steps[0][0])
        self.order = [0] + inner_order(stands)
        self.tried = [shares_tried(step) for step in steps]
        self.bases = [[] for _ in stands]
        self.bases[0] = unit_rows(self.n)
        for stand in self.order:
            for arrow in range(len(stands[stand][1])):
                self.lead_on(stand, arrow)

    def lead_on(self, stand, arrow):
        """Put what an arrow leads the states of stand to into the basis of its end."""
        _, end = self.stands[stand][1][arrow]
        states = list(self.bases[stand])
        for state in states:
            # Where all can stand there is no need to look on; so it is at the beginning.
            if len(self.bases[end]) < self.n:
                for going in self.moved(stand, arrow, state):
                    self.bases[end] = with_row(self.bases[end], going)

    def moved(self, stand, arrow, state):
        """Return the list of the STATES to which an arrow of stand leads one, by the shares that are tried."""
        step, _ = self.stands[stand][1][arrow]
        return each_once([mixed(self.steps[step][0], shares, state) for shares in self.tried[step]])

    def first_home(self):
        """Return a dict of the TABLE of the way home from the beginning: none is needed."""
        return {0: tuple(unit_rows(self.n))}

    def add_home(self, homes, stand):
        """Put the TABLE of the way home from stand, by first arrows, told or equal shares, into homes.

        homes has those of the stands behind it.
        """
        if stand not in homes:
            step, end = self.stands[stand][1][0]
            table = table_of(evened(self.steps[step]))
            homes[stand] = tuple([row_by(row, table) for row in homes[end]])

    def tables_home(self):
        """Return a dict of the TABLE of the way home from each stand."""
        homes = self.first_home()
        for stand in reversed(self.order):
            self.add_home(homes, stand)
        return homes

    def row_home(self, stand):
        """Return the row of first arrows from stand to the next coming to the beginning, () from there."""
        row = ()
        while stand != 0:
            _, stand = self.stands[stand][1][0]
            row = row + (0,)
        return row

    def shares_home(self, stand):
        """Return the shares of the moves of row_home, told or equal ones."""
        moves = steps_along(self.stands, stand, self.row_home(stand))
        return tuple([evened(self.steps[step])[1] for step in moves])

    def changes(self, stand, homes):
        """Return the list of what moves from stand change of its states, as it is seen at home: rows of n.

        A sum by a row stays the same in these moves exactly if the sum of each of them by it is 0.
        """
        found = []
        for state in self.bases[stand]:
            seen = seen_by(homes[stand], state)
            for arrow, (_, end) in enumerate(self.stands[stand][1]):
                for going in self.moved(stand, arrow, state):
                    found.append(less_row(seen_by(homes[end], going), seen))
        return found

    def is_felt(self, stand, row):
        """Return whether the sum by row is not 0 for something that can stand at stand."""
        return any([weighed(row, state) != NOUGHT for state in self.bases[stand]])

    def felt_ahead(self, stand, row):
        """Return a stand ahead, its arrow to stand, shares, and the row that is felt there by what row is felt here."""
        for ahead in self.order:
            for arrow, (step, end) in enumerate(self.stands[ahead][1]):
                for shares in self.tried[step] if end == stand else []:
                    behind = row_by(row, table_of((self.steps[step][0], shares)))
                    if self.is_felt(ahead, behind):
                        return ahead, arrow, shares, behind
        return None

    def way_felt(self, stand, row):
        """Return a row from the beginning to stand, and shares, by which a state comes there for which row is felt."""
        arrows = ()
        every = ()
        while stand != 0:
            stand, arrow, shares, row = self.felt_ahead(stand, row)
            arrows = (arrow,) + arrows
            every = (shares,) + every
        return arrows, every
