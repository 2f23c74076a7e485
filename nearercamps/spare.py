"""What can be spared and what helps: machines with some looks or arrows less, or with some looks more."""

from math import comb

from nearercamps.errors import CanNot, TooMuch, Unfit
from nearercamps.machines import choices, places_of
from nearercamps.plain import frozen, is_number_below
from nearercamps.together import surely_together
from nearercamps.ways import met_order

MOST_SETS = 5000


def looks_of(machine):
    """Return the set of all looks."""
    steps, _ = machine
    found = []
    for at, (looks, _) in enumerate(steps):
        found = found + [(at, place, seen) for place, lot in enumerate(looks) for seen in lot]
    return tuple(found)


def further_looks(machine):
    """Return the set of all further looks."""
    steps, _ = machine
    every = list(range(places_of(machine)))
    found = []
    for at, (looks, _) in enumerate(steps):
        found = found + [(at, place, seen) for place in every for seen in every if seen not in looks[place]]
    return tuple(found)


def arrows_of(machine, owner):
    """Return the set of the arrows at choices of this owner."""
    _, stands = machine
    return tuple([(stand, arrow) for stand in choices(machine, owner) for arrow in range(len(stands[stand][1]))])


def with_lots(steps, lots):
    """Return steps in which the places that lots has, told by (step, place), look at these LOTS."""
    made = []
    for at, (looks, shares) in enumerate(steps):
        own = tuple([lots[(at, place)] if (at, place) in lots else lot for place, lot in enumerate(looks)])
        made.append((own, shares if own == looks else None))
    return tuple(made)


def without_looks(machine, looks):
    """Return the MACHINE with these looks left out."""
    steps, stands = frozen(machine)
    gone = {look: True for look in frozen(looks)}
    every = {look: True for look in looks_of((steps, stands))}
    if not all([look in every for look in gone]):
        raise Unfit()
    lots = {}
    for at, place, _ in gone:
        lots[(at, place)] = tuple([seen for seen in steps[at][0][place] if (at, place, seen) not in gone])
    if () in list(lots.values()):
        raise Unfit()
    return (with_lots(steps, lots), stands)


def with_looks(machine, looks):
    """Return the MACHINE with these further looks added."""
    steps, stands = frozen(machine)
    new = frozen(looks)
    every = {look: True for look in further_looks((steps, stands))}
    if not all([look in every for look in new]):
        raise Unfit()
    lots = {}
    for at, place, _ in new:
        lots[(at, place)] = steps[at][0][place]
    for at, place, seen in new:
        lots[(at, place)] = tuple(sorted(lots[(at, place)] + (seen,)))
    return (with_lots(steps, lots), stands)


def is_arrow_of(stands, stand, arrow):
    """Return whether stand is one of stands and arrow the place of an arrow of it."""
    return is_number_below(stand, len(stands)) and is_number_below(arrow, len(stands[stand][1]))


def without_arrows(machine, arrows):
    """Return the MACHINE with these arrows left out, and the stands that can't be reached then."""
    steps, stands = frozen(machine)
    gone = {arrow: True for arrow in frozen(arrows)}
    if not all([is_arrow_of(stands, stand, arrow) for stand, arrow in gone]):
        raise Unfit()
    left = []
    for stand, (_, own) in enumerate(stands):
        left.append(tuple([one for k, one in enumerate(own) if (stand, k) not in gone]))
    if () in left:
        raise Unfit()
    reached = sorted(met_order(0, left))
    number = {stand: k for k, stand in enumerate(reached)}
    made = []
    for stand in reached:
        made.append((stands[stand][0], tuple([(step, number[end]) for step, end in left[stand]])))
    return (steps, tuple(made))


def refuse_unless(holds):
    """Raise CanNot() unless it holds."""
    if not holds:
        raise CanNot()


def is_spared(machine, look):
    """Return whether the LOT of this look has more, and it holds without it."""
    step, place, _ = look
    return len(machine[0][step][0][place]) > 1 and surely_together(without_looks(machine, (look,)))


def needless_looks(machine):
    """Return the set of the looks with which alone left out it still holds."""
    refuse_unless(surely_together(machine))
    return tuple([look for look in looks_of(machine) if is_spared(machine, look)])


def spare_looks(machine):
    """Return the set of the looks that are left out if one after the other is, where it then still holds."""
    refuse_unless(surely_together(machine))
    spared = []
    left = frozen(machine)
    for look in looks_of(machine):
        if is_spared(left, look):
            left = without_looks(left, (look,))
            spared.append(look)
    return tuple(spared)


def holding_arrows(machine, owner):
    """Return the set of the arrows at choices of this owner with which alone left out it holds."""
    return tuple([arrow for arrow in arrows_of(machine, owner) if surely_together(without_arrows(machine, (arrow,)))])


def needless_arrows(machine):
    """Return the set of the arrows at choices of ours with which alone left out it still holds."""
    refuse_unless(surely_together(machine))
    return holding_arrows(machine, "ours")


def helping_looks(machine):
    """Return the set of the further looks with which alone added it holds."""
    refuse_unless(not surely_together(machine))
    return tuple([look for look in further_looks(machine) if surely_together(with_looks(machine, (look,)))])


def harmful_arrows(machine):
    """Return the set of the arrows at choices of anybody's with which alone left out it holds."""
    refuse_unless(not surely_together(machine))
    return holding_arrows(machine, "any")


def sets_of(things, many):
    """Return the list of all sets of so many of things, ascending if these are."""
    found = [((), 0)]
    for _ in range(many):
        found = [(some + (things[k],), k + 1) for some, begin in found for k in range(begin, len(things))]
    return [some for some, _ in found]


def fewest_looks(machine, most):
    """Return the least of the smallest sets of further looks with which added it holds, None if there is none."""
    machine = frozen(machine)
    further = further_looks(machine)
    if sum([comb(len(further), many) for many in range(most + 1)]) > MOST_SETS:
        raise TooMuch()
    for many in range(most + 1):
        sets = sets_of(further, many)
        for looks in sets:
            if surely_together(with_looks(machine, looks)):
                return looks
    return None
