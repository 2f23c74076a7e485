"""Plain counting for sections 15 and 16: lots led on to a goal, by the words of the document."""

from tests import plain_machines as plain
from tests import plain_steps


def outside(looks, some):
    return tuple(p for p, seen in enumerate(looks) if set(seen) <= set(some))


def hearers(looks, some):
    return tuple(p for p, seen in enumerate(looks) if set(seen) & set(some))


class Lots:
    """Lots of a MACHINE, led on from a first one until they are the goal."""

    def __init__(self, own, lead, first, goal):
        self.own, self.lead, self.first, self.goal = own, lead, first, goal
        self.n = len(own[0][0][0])
        self.every = [()] + plain_steps.lots_of(self.n)
        self.stands = own[1]

    def ends(self, k, some):
        return [(end, self.lead(self.own[0][step][0], some)) for step, end in self.stands[k][1]]

    def along(self, row):
        """Return the lots on the way of a row from the beginning."""
        found = [self.first]
        for step in plain.way(self.own, 0, row)[0]:
            found.append(self.lead(self.own[0][step][0], found[-1]))
        return found

    def ranks(self, free=False):
        """Return the least numbers of moves within which we have the goal, if all owners are any or not."""
        ranks = {(k, self.goal): 0 for k in range(len(self.stands))}
        while True:
            new = {}
            for k in range(len(self.stands)):
                for some in self.every:
                    good = [ranks[end] for end in self.ends(k, some) if end in ranks]
                    ours = self.stands[k][0] == "ours" and not free
                    if (k, some) not in ranks and good and (ours or len(good) == len(self.stands[k][1])):
                        new[(k, some)] = 1 + (min(good) if ours else max(good))
            if not new:
                return ranks
            ranks.update(new)

    def moves(self):
        """Return the least number of moves behind which all rows have the goal, all lots gone through; or None."""
        alive, moves = {(0, self.first)}, 0
        while any(some != self.goal for _, some in alive):
            if moves > len(self.stands) * len(self.every):
                return None
            alive = {end for k, some in alive for end in self.ends(k, some)}
            moves += 1
        return moves

    def is_lot(self, thing):
        return (type(thing) is tuple and thing == () or plain_steps.lot(thing, self.n)) and thing != self.goal

    def is_arrow(self, k, thing, wanted):
        if self.stands[k][0] != wanted:
            return thing is None
        return plain_steps.num(thing) and 0 <= thing < len(self.stands[k][1])

    def parts(self, thing, size, wanted):
        """Return a dict of what a plan tells for each pair, None if thing is none by its shape."""
        if type(thing) is not tuple:
            return None
        for part in thing:
            if type(part) is not tuple or len(part) != size or not plain_steps.num(part[0]):
                return None
            if not 0 <= part[0] < len(self.stands) or not self.is_lot(part[1]):
                return None
            if not self.is_arrow(part[0], part[-1], wanted):
                return None
        pairs = [part[:2] for part in thing]
        return {part[:2]: part[2:] for part in thing} if pairs == sorted(set(pairs)) else None

    def is_plan(self, thing):
        told = self.parts(thing, 4, "ours")
        if told is None or not all(plain_steps.num(rank) and rank > 0 for rank, _ in told.values()):
            return False
        if self.first != self.goal and (0, self.first) not in told:
            return False
        for (k, some), (rank, arrow) in told.items():
            ends = self.ends(k, some)
            for end in ends if arrow is None else [ends[arrow]]:
                if end[1] != self.goal and not (end in told and told[end][0] < rank):
                    return False
        return True

    def is_shun(self, thing):
        told = self.parts(thing, 3, "any")
        if told is None or (0, self.first) not in told:
            return False
        for (k, some), (arrow,) in told.items():
            ends = self.ends(k, some)
            if not all(end in told for end in (ends if arrow is None else [ends[arrow]])):
                return False
        return True

    def is_ring(self, thing, keeps):
        """Return whether thing is a row and a ring behind it, the goal is not there, and keeps(there, behind) is so."""
        if type(thing) is not tuple or len(thing) != 2 or not plain.row(self.own, 0, thing[0]):
            return False
        row, ring = thing
        end = plain.way(self.own, 0, row)[1][-1]
        if not plain.row(self.own, end, ring) or len(ring) == 0 or plain.way(self.own, end, ring)[1][-1] != end:
            return False
        there, behind = self.along(row)[-1], self.along(row + ring)[-1]
        return there != self.goal and keeps(set(there), set(behind))
