"""Lots and looks: who looks at whom, over one move or many."""

from math import gcd

from nearercamps.errors import Unfit
from nearercamps.plain import ascending, frozen, is_filled_tuple, is_number_below, is_rising, is_tuple_of


def is_lot(thing, n):
    """Return whether thing is a LOT for n places."""
    if not is_filled_tuple(thing):
        return False
    return all([is_number_below(place, n) for place in thing]) and is_rising(thing)


def is_looks(thing, n):
    """Return whether thing is LOOKS for n places."""
    return is_tuple_of(thing, n) and all([is_lot(lot, n) for lot in thing])


def all_lots(n):
    """Return the ascending list of all LOTS for n places."""
    lots = [()]
    for place in range(n):
        lots = lots + [lot + (place,) for lot in lots]
    return sorted(lots)[1:]


def seen_from(looks, lot):
    """Return the lot of all places at which some place of lot looks."""
    return ascending([seen for place in lot for seen in looks[place]])


def lookers_at(looks, lot):
    """Return the lot of all places that look at some place of lot."""
    return tuple([place for place, seen in enumerate(looks) if any([one in lot for one in seen])])


def lookers_within(looks, lot):
    """Return the lot of all places that look at places of lot alone."""
    return tuple([place for place, seen in enumerate(looks) if all([one in lot for one in seen])])


def stand_still(n):
    """Return the LOOKS for n places in which all keep still."""
    return tuple([(place,) for place in range(n)])


def behind_looks(looks, others):
    """Return the LOOKS of a move by looks and then one by others."""
    return tuple([seen_from(looks, lot) for lot in others])


def many_looks(looks, many):
    """Return the LOOKS of many moves by looks."""
    power = looks
    done = stand_still(len(looks))
    while many > 0:
        if many % 2 == 1:
            done = behind_looks(done, power)
        power = behind_looks(power, power)
        many = many // 2
    return done


def is_wider(looks, others):
    """Return whether each place looks, by looks, at all places that it looks at by others."""
    for lot, narrow in zip(looks, others):
        if not all([place in lot for place in narrow]):
            return False
    return True


def is_closed(looks, lot):
    """Return whether the places of lot look at places of it alone."""
    return all([place in lot for place in seen_from(looks, lot)])


def reached_from(looks, place):
    """Return the LOT of the places to which ways lead from place, also those of no move."""
    reached = [place]
    at = 0
    while at < len(reached):
        lot = looks[reached[at]]
        reached = reached + [seen for seen in lot if seen not in reached]
        at += 1
    return tuple(sorted(reached))


def least_closed(looks):
    """Return the ascending list of the least closed LOTS."""
    reaches = [reached_from(looks, place) for place in range(len(looks))]
    return sorted(set([reach for reach in reaches if all([reaches[place] == reach for place in reach])]))


def way_lengths(looks, place):
    """Return a dict that has, for each place reached from this one, the moves of a shortest way."""
    lengths = {place: 0}
    reached = [place]
    at = 0
    while at < len(reached):
        here = reached[at]
        lot = looks[here]
        for seen in lot:
            if seen not in lengths:
                lengths[seen] = lengths[here] + 1
                reached.append(seen)
        at += 1
    return lengths


def period_of(looks, lot):
    """Return the greatest number that divides the lengths of all rings of a least closed LOT."""
    if frozen(lot) not in least_closed(looks):
        raise Unfit()
    lengths = way_lengths(looks, lot[0])
    period = 0
    # Each look is off the shortest ways by a sum of rings, so these differences have the rings' common divisor.
    for place in lot:
        for seen in looks[place]:
            period = gcd(period, lengths[place] + 1 - lengths[seen])
    return period


def comes_together_alone(looks):
    """Return whether there is just one least closed LOT and its period is 1."""
    lots = least_closed(looks)
    return len(lots) == 1 and period_of(looks, lots[0]) == 1


def long_sight(looks, many):
    """Return whether over many moves by looks some place is looked at by all."""
    far = many_looks(looks, many)
    return any([all([place in lot for lot in far]) for place in range(len(far))])
