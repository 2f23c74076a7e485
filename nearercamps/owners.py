"""Which choices must be ours, and which arrows of others must be struck, so that all come together."""

from nearercamps.errors import CanNot, NoPlace, TooMuch
from nearercamps.plain import frozen, is_number_below, is_tuple_of
from nearercamps.spare import arrows_of, without_arrows
from nearercamps.splits import is_part
from nearercamps.together import is_our_paper, is_their_paper, our_paper, surely_together, their_paper

MOST_CHOICES = 10
MOST_ARROWS = 12


def is_choice(stands, stand):
    """Return whether stand is a choice among stands."""
    return is_number_below(stand, len(stands)) and len(stands[stand][1]) > 1


def every_choice(stands):
    """Return the set of all choices, whoever owns them."""
    return tuple([k for k, (_, arrows) in enumerate(stands) if len(arrows) > 1])


def handed_over(machine, stands):
    """Return the MACHINE in which just these choices have the owner ours, all other stands the owner any."""
    steps, own = frozen(machine)
    for stand in stands:
        if not is_choice(own, stand):
            raise NoPlace(stand)
    return (steps, tuple([("ours" if k in stands else "any", arrows) for k, (_, arrows) in enumerate(own)]))


def is_enough(machine, stands):
    """Return whether stands are enough."""
    return surely_together(handed_over(machine, stands))


def sets_upwards(things):
    """Return the list of all sets of things, each behind those that lie within it."""
    sets = [()]
    for one in things:
        sets = sets + [some + (one,) for some in sets]
    return sets


def least_sets(sets, is_right):
    """Return the ascending list of the sets that are right and have no other such one within them.

    Each of sets stands behind those that lie within it; with a set all those that it lies within are right.
    """
    found = []
    for some in sets:
        if not any([is_part(one, some) for one in found]) and is_right(some):
            found.append(some)
    return sorted(found)


def needed_sets(machine):
    """Return the ascending list of all needed ones."""
    every = every_choice(machine[1])
    if len(every) > MOST_CHOICES:
        raise TooMuch()
    if not is_enough(machine, every):
        return []
    return least_sets(sets_upwards(every), lambda stands: is_enough(machine, stands))


def fewest_choices(machine):
    """Return the least number of choices that are enough, None if none are."""
    return min([len(stands) for stands in needed_sets(machine)], default=None)


def some_needed_sets(machine):
    """Return needed_sets(machine). Raises CanNot() if there are none."""
    sets = needed_sets(machine)
    if sets == []:
        raise CanNot()
    return sets


def always_needed(machine):
    """Return the set of the choices that are in all needed ones."""
    sets = some_needed_sets(machine)
    return tuple([stand for stand in every_choice(machine[1]) if all([stand in stands for stands in sets])])


def never_needed(machine):
    """Return the set of the choices that are in no needed ones."""
    sets = some_needed_sets(machine)
    return tuple([stand for stand in every_choice(machine[1]) if not any([stand in stands for stands in sets])])


def without_one(stands, stand):
    """Return stands but for this one."""
    return tuple([one for one in stands if one != stand])


def made_needed(machine, stands):
    """Return what is left of stands if they are left out, the greatest first, whenever the rest is enough."""
    if not is_enough(machine, stands):
        raise CanNot()
    left = frozen(stands)
    for stand in reversed(frozen(stands)):
        if is_enough(machine, without_one(left, stand)):
            left = without_one(left, stand)
    return left


def needed_paper(machine, stands):
    """Return a PAPER of stands."""
    stands = frozen(stands)
    paper = our_paper(handed_over(machine, stands))
    papers = tuple([their_paper(handed_over(machine, without_one(stands, stand))) for stand in stands])
    if paper is None or None in papers:
        raise CanNot()
    return (paper, papers)


def is_needed_paper(machine, stands, thing):
    """Return whether thing is a PAPER of stands."""
    stands = frozen(stands)
    handed = handed_over(machine, stands)
    if not is_tuple_of(thing, 2) or not is_our_paper(handed, thing[0]) or not is_tuple_of(thing[1], len(stands)):
        return False
    others = [handed_over(machine, without_one(stands, stand)) for stand in stands]
    return all([is_their_paper(other, paper) for other, paper in zip(others, thing[1])])


def refuse_no_strikes(stands, strikes):
    """Raise NoPlace for the first stand that is no choice of anybody's, then for the first arrow that is none."""
    for stand, _ in strikes:
        if not is_choice(stands, stand) or stands[stand][0] != "any":
            raise NoPlace(stand)
    for stand, arrow in strikes:
        if not is_number_below(arrow, len(stands[stand][1])):
            raise NoPlace(arrow)


def keep_some(stands, strikes):
    """Return whether each stand keeps some arrow without strikes."""
    struck = {strike: True for strike in strikes}
    return all([not all([(stand, k) in struck for k in range(len(stands[stand][1]))]) for stand, _ in strikes])


def is_struck_enough(machine, strikes):
    """Return whether strikes are enough."""
    strikes = frozen(strikes)
    refuse_no_strikes(machine[1], strikes)
    return surely_together(without_arrows(machine, strikes))


def least_strikes(machine):
    """Return the ascending list of all least strikes that are enough."""
    arrows = arrows_of(machine, "any")
    if len(arrows) > MOST_ARROWS:
        raise TooMuch()
    sets = [strikes for strikes in sets_upwards(arrows) if keep_some(machine[1], strikes)]
    return least_sets(sets, lambda strikes: is_struck_enough(machine, strikes))
