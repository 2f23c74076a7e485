"""Numbers that are read late: a MACHINE for places of now and before, and what lateness harms."""

from nearercamps.alike import numbers_of
from nearercamps.errors import NoPlace, TooMuch, Unfit
from nearercamps.looks import stand_still
from nearercamps.machines import each_once, places_of
from nearercamps.owners import handed_over
from nearercamps.plain import frozen, is_number_below
from nearercamps.quotients import UNIT
from nearercamps.together import camp_ring, is_camp_ring, surely_together

MOST_ARROWS = 200


def reads_itself(machine):
    """Return whether each place looks at itself in each of the STEPS."""
    steps, _ = machine
    return all([place in lot for looks, _ in steps for place, lot in enumerate(looks)])


def spots(late):
    """Return the tuple of the SPOTS."""
    now = [(place, 0) for place in range(len(late))]
    before = [(place, age) for place, most in enumerate(late) for age in range(1, most + 1)]
    return tuple(now + before)


def oldest_read(place, seen, late):
    """Return how old what place reads of a place that it sees may be at most."""
    return 0 if seen == place else late[seen]


def are_fit(looks, late, ages):
    """Return whether each of ages may be read."""
    for place, lot in enumerate(looks):
        for seen, age in zip(lot, ages[place]):
            if not is_number_below(age, oldest_read(place, seen, late) + 1):
                return False
    return True


def read_spots(looks, late, ages):
    """Return, for each place, the list of the numbers of the SPOTS that it reads, in the order of its LOT."""
    number = {spot: k for k, spot in enumerate(spots(late))}
    return [[number[(seen, age)] for seen, age in zip(lot, own)] for lot, own in zip(looks, ages)]


def older_lots(late):
    """Return the LOTS of the older SPOTS, each of which looks at the next younger one."""
    every = spots(late)
    return tuple([(every.index((place, age - 1)),) for place, age in every[len(late):]])


def late_looks(looks, late, ages):
    """Return the LOOKS of a move by looks in which ages are read."""
    if not are_fit(looks, late, ages):
        raise Unfit()
    return tuple([tuple(sorted(read)) for read in read_spots(looks, late, ages)]) + older_lots(late)


def ages_of_place(place, lot, late):
    """Return the ascending list of the ages that place may read of its LOT."""
    found = [()]
    for seen in lot:
        found = [ages + (age,) for ages in found for age in range(oldest_read(place, seen, late) + 1)]
    return found


def ages_of(looks, late):
    """Return the ascending list of all ages that may be read in a move by looks."""
    found = [()]
    for place, lot in enumerate(looks):
        own = ages_of_place(place, lot, late)
        found = [ages + (one,) for ages in found for one in own]
    return found


def late_step(step, late, ages):
    """Return the STEP for all SPOTS by which step is done if ages are read."""
    looks, shares = step
    if shares is None:
        return (late_looks(looks, late, ages), None)
    rows = []
    for read, row in zip(read_spots(looks, late, ages), shares):
        # No spot is read twice by one place, so the shares are never compared.
        rows.append(tuple([share for _, share in sorted(zip(read, row))]))
    older = older_lots(late)
    return (late_looks(looks, late, ages), tuple(rows) + ((UNIT,),) * len(older))


def ages_count(looks, late):
    """Return how many ages_of there are."""
    many = 1
    for place, lot in enumerate(looks):
        for seen in lot:
            many = many * (oldest_read(place, seen, late) + 1)
    return many


def is_choice_of_ours(stand):
    """Return whether a stand, a pair (owner, arrows), is a choice of ours."""
    owner, arrows = stand
    return owner == "ours" and len(arrows) > 1


def late_arrows_count(machine, late):
    """Return how many arrows there are if machine is read late, equal ones counted."""
    steps, stands = machine
    counts = [ages_count(looks, late) for looks, _ in steps]
    many = 0
    for stand in stands:
        many += sum([counts[step] for step, _ in stand[1]])
        if is_choice_of_ours(stand):
            many += len(stand[1])
    return many


def late_stands(machine, late):
    """Return the list of the stands of machine read late, each arrow a pair of its STEP itself and its end."""
    steps, stands = machine
    still = (stand_still(len(spots(late))), None)
    old = []
    new = []
    for stand in stands:
        going = []
        for step, end in stand[1]:
            going.append([(late_step(steps[step], late, ages), end) for ages in ages_of(steps[step][0], late)])
        if is_choice_of_ours(stand):
            old.append(("ours", [(still, len(stands) + len(new) + k) for k in range(len(going))]))
            new = new + going
        else:
            old.append(("any", [arrow for arrows in going for arrow in arrows]))
    return old + [("any", arrows) for arrows in new]


def late_machine(machine, late):
    """Return the MACHINE read late."""
    machine = frozen(machine)
    if late_arrows_count(machine, late) > MOST_ARROWS:
        raise TooMuch()
    known = {}
    stands = []
    for owner, arrows in late_stands(machine, late):
        once = each_once(arrows)
        numbers = numbers_of([step for step, _ in once], known)
        stands.append((owner, tuple([(step, end) for step, (_, end) in zip(numbers, once)])))
    return (tuple(known), tuple(stands))


def free_late(machine, late):
    """Return the MACHINE read late in which all choices are anybody's."""
    return handed_over(late_machine(machine, late), ())


def late_harms(machine, late):
    """Return whether some run of machine read late, all choices being anybody's, does not come together."""
    return not surely_together(free_late(machine, late))


def least_late(machine, place, most):
    """Return the least number to most that harms as late of this place alone, None if none does."""
    n = places_of(machine)
    if not is_number_below(place, n):
        raise NoPlace(place)
    for number in range(most + 1):
        if late_harms(machine, [number if one == place else 0 for one in range(n)]):
            return number
    return None


def late_paper(machine, late):
    """Return a pair of CAMPS and a round row of late_machine that keeps them, None if late does not harm."""
    free = free_late(machine, late)
    return None if surely_together(free) else camp_ring(free)


def is_late_paper(machine, late, thing):
    """Return whether thing is a pair of CAMPS and a round row of late_machine that keeps them."""
    return is_camp_ring(free_late(machine, late), thing)
