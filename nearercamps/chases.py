"""Lots that moves lead on until they come to a goal: what outsides and hearers have in common."""

from nearercamps.falls import fall_ranks
from nearercamps.looks import all_lots, is_lot
from nearercamps.machines import is_row, places_of, row_end
from nearercamps.plain import is_number, is_number_below, is_rising, is_tuple_of


def every_lot(n):
    """Return the list of all lots for n places, () first."""
    return [()] + all_lots(n)


class Chase:
    """A lot at the beginning of a MACHINE, what its STEPS lead lots to, and the goal, a lot that all lead to itself.

    tables has, for each STEP, a dict of what it leads each lot to.
    """

    def __init__(self, machine, tables, begin, goal):
        self.machine = machine
        self.tables = tables
        self.begin = (0, begin)
        self.goal = goal

    def arrows(self, spot):
        """Return the arrows of the stand of a pair (stand, lot)."""
        return self.machine[1][spot[0]][1]

    def is_ours(self, spot):
        """Return whether the stand of a pair (stand, lot) is ours."""
        return self.machine[1][spot[0]][0] == "ours"

    def ends(self, spot):
        """Return the list of the pairs (stand, lot) to which arrows lead such a pair."""
        return [(end, self.tables[step][spot[1]]) for step, end in self.arrows(spot)]

    def needed(self, spot):
        """Return how many of the ends of a pair must be good for it to be good."""
        if spot[1] == self.goal:
            return 0
        return 1 if self.is_ours(spot) else len(self.arrows(spot))

    def rows(self):
        """Return a dict of the least of the shortest rows to each pair that is met from the beginning on, in order."""
        order = [self.begin]
        found = {self.begin: ()}
        at = 0
        while at < len(order):
            spot = order[at]
            ends = [] if spot[1] == self.goal else self.ends(spot)
            for arrow, end in enumerate(ends):
                if end not in found:
                    found[end] = found[spot] + (arrow,)
                    order.append(end)
            at += 1
        return found

    def ranks(self):
        """Return a dict of the least number of moves within which we have the goal from each pair that is met.

        Pairs from which we can't have it are not in it.
        """
        spots = list(self.rows())
        ends = {spot: [] if spot[1] == self.goal else self.ends(spot) for spot in spots}
        return fall_ranks(ends, {spot: self.needed(spot) for spot in spots})


def moves_to_goal(chase):
    """Return within how many moves we have the goal, whatever anybody does, None if we can't."""
    ranks = chase.ranks()
    return ranks[chase.begin] if chase.begin in ranks else None


def goal_row(chase):
    """Return the least of the shortest rows to the goal, None if there is none."""
    rows = chase.rows()
    for spot in rows:
        if spot[1] == chase.goal:
            return rows[spot]
    return None


def reaching_plan(chase):
    """Return a plan of ours, a set of (stand, lot, rank, arrow), None if there is none."""
    ranks = chase.ranks()
    if chase.begin not in ranks:
        return None
    plan = []
    for spot, rank in ranks.items():
        arrow = None
        if rank > 0 and chase.is_ours(spot):
            arrow = [end in ranks and ranks[end] < rank for end in chase.ends(spot)].index(True)
        if rank > 0:
            plan.append(spot + (rank, arrow))
    return tuple(sorted(plan))


def first_shunning(chase, ranks, spot):
    """Return the first arrow that leads a pair to one without a rank."""
    return [end in ranks for end in chase.ends(spot)].index(False)


def shunning_plan(chase):
    """Return a plan against us, a set of (stand, lot, arrow), None if there is none."""
    ranks = chase.ranks()
    if chase.begin in ranks:
        return None
    plan = []
    for spot in chase.rows():
        if spot not in ranks:
            plan.append(spot + (None if chase.is_ours(spot) else first_shunning(chase, ranks, spot),))
    return tuple(sorted(plan))


def is_part_of_plan(chase, thing, count, is_for_us):
    """Return whether thing is a tuple of so many: a stand, a lot that is not the goal, .., and an arrow or None.

    It is an arrow at stands of ours if the plan is for us, at all others otherwise.
    """
    if not is_tuple_of(thing, count) or not is_number_below(thing[0], len(chase.machine[1])):
        return False
    if thing[1] == chase.goal or not (thing[1] == () or is_lot(thing[1], places_of(chase.machine))):
        return False
    if chase.is_ours(thing) == is_for_us:
        return is_number_below(thing[-1], len(chase.arrows(thing)))
    return thing[-1] is None


def taken_ends(chase, part):
    """Return the list of the ends of the arrow of a part of a plan, of all arrows if that is None."""
    ends = chase.ends(part)
    return ends if part[-1] is None else [ends[part[-1]]]


def is_rank(thing):
    """Return whether thing is a number from 1."""
    return is_number(thing) and thing >= 1


def is_reaching_plan(chase, thing):
    """Return whether thing is a plan of ours."""
    if not isinstance(thing, tuple):
        return False
    if not all([is_part_of_plan(chase, part, 4, True) and is_rank(part[2]) for part in thing]):
        return False
    ranks = {part[:2]: part[2] for part in thing}
    # Each pair stands once, so that no rank and no arrow is ever compared.
    if not is_rising([part[:2] for part in thing]) or not (chase.begin[1] == chase.goal or chase.begin in ranks):
        return False
    good = []
    for part in thing:
        for end in taken_ends(chase, part):
            good.append(end[1] == chase.goal or (end in ranks and ranks[end] < part[2]))
    return all(good)


def is_shunning_plan(chase, thing):
    """Return whether thing is a plan against us."""
    if not isinstance(thing, tuple) or not all([is_part_of_plan(chase, part, 3, False) for part in thing]):
        return False
    spots = {part[:2]: True for part in thing}
    if not is_rising([part[:2] for part in thing]) or chase.begin not in spots:
        return False
    return all([end in spots for part in thing for end in taken_ends(chase, part)])


def shunning_ring(chase):
    """Return a row and a ring behind it along which the goal is never met, None if there are none.

    All owners are any.
    """
    ranks = chase.ranks()
    if chase.begin in ranks:
        return None
    spot = chase.begin
    place = {}
    row = []
    while spot not in place:
        place[spot] = len(row)
        arrow = first_shunning(chase, ranks, spot)
        row.append(arrow)
        spot = chase.ends(spot)[arrow]
    return (tuple(row[:place[spot]]), tuple(row[place[spot]:]))


def is_row_and_ring(machine, thing):
    """Return whether thing is a pair of a row from the beginning and a row, not (), from its end back to that."""
    if not is_tuple_of(thing, 2) or not is_row(machine, 0, thing[0]):
        return False
    end = row_end(machine, 0, thing[0])
    return is_row(machine, end, thing[1]) and thing[1] != () and row_end(machine, end, thing[1]) == end


def lot_behind(chase, row):
    """Return the lot to which a row from the beginning leads the first one."""
    spot = chase.begin
    for arrow in row:
        spot = chase.ends(spot)[arrow]
    return spot[1]
