"""Runs in which named STEPS come within told spans, and camps that live along them for ever.

A spot is a triple (stand, counts, camps) here, counts telling for each named STEP how many moves in a row lacked it.
"""

from nearercamps.falls import fall_ranks
from nearercamps.spans import counts_behind
from nearercamps.splits import every_camps, led_maps


def complete_camps(n):
    """Return the ascending list of the CAMPS of n places that hold all places."""
    return [camps for camps in every_camps(n) if len(camps[0]) + len(camps[1]) == n]


class Lags:
    """The spots of the runs of a MACHINE within k, of named STEPS, and the arrows between them."""

    def __init__(self, machine, named, k):
        steps, stands = machine
        self.stands = stands
        self.maps = led_maps(steps)
        self.wants = tuple([(step, k) for step in named])
        # CAMPS within others live no longer than these, so that it is enough to begin with the widest ones.
        self.begins = [(0, (0,) * len(named), camps) for camps in complete_camps(len(steps[0][0]))]

    def arrows(self, spot):
        """Return the list of the pairs (arrow, spot behind it) along which the camps live within k."""
        stand, counts, camps = spot
        found = []
        for arrow, (step, end) in enumerate(self.stands[stand][1]):
            behind = counts_behind(counts, self.wants, step)
            going = self.maps[step][camps]
            if behind is not None and going is not None:
                found.append((arrow, (end, behind, going)))
        return found

    def met(self):
        """Return a dict of all spots that are met from the begins on, each with its arrows."""
        order = list(self.begins)
        found = {spot: [] for spot in order}
        at = 0
        while at < len(order):
            arrows = self.arrows(order[at])
            found[order[at]] = arrows
            for _, end in arrows:
                if end not in found:
                    found[end] = []
                    order.append(end)
            at += 1
        return found

    def endless(self):
        """Return a dict of the spots from which camps can live for ever, each with its arrows to such spots."""
        arrows = self.met()
        ends = {spot: [end for _, end in arrows[spot]] for spot in arrows}
        fallen = fall_ranks(ends, {spot: len(ends[spot]) for spot in ends})
        return {spot: [pair for pair in arrows[spot] if pair[1] not in fallen] for spot in arrows if spot not in fallen}


def way_round(endless, spot):
    """Return the row from a spot of the beginning by first arrows to its next coming, and the spot there."""
    row = []
    while row == [] or spot[0] != 0:
        arrow, spot = endless[spot][0]
        row.append(arrow)
    return row, spot


def lasting_round(lags):
    """Return CAMPS and a round row within k that leads them to themselves, None if there is none."""
    endless = lags.endless()
    begins = [spot for spot in lags.begins if spot in endless]
    if begins == []:
        return None
    spot = begins[0]
    met = []
    rows = []
    # Where the counts are the same again, each named STEP has come on the way.
    while spot not in met:
        met.append(spot)
        row, spot = way_round(endless, spot)
        rows.append(row)
    return (spot[2], tuple([arrow for row in rows[met.index(spot):] for arrow in row]))


def seen_behind(seen, named, step):
    """Return which of named have been seen behind a move by this STEP, as an ascending tuple."""
    if step in named and step not in seen:
        return tuple(sorted(seen + (step,)))
    return seen


def comes_round(lags, named, begin):
    """Return whether camps at the beginning come to themselves again by a round row that has each named STEP."""
    order = [(begin, ())]
    met = {order[0]: True}
    at = 0
    while at < len(order):
        (stand, camps), seen = order[at]
        for step, end in lags.stands[stand][1]:
            behind = ((end, lags.maps[step][camps]), seen_behind(seen, named, step))
            if behind == (begin, named):
                return True
            if behind[0][1] is not None and behind not in met:
                met[behind] = True
                order.append(behind)
        at += 1
    return False
