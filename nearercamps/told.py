"""Who comes together by told times, whatever anybody chooses."""

from nearercamps.camps import is_camps
from nearercamps.errors import CanNot, NoPlace, Unfit
from nearercamps.machines import is_row, places_of
from nearercamps.plain import ascending, frozen, is_number_below, is_tuple_of
from nearercamps.quotients import UNIT, is_less, minus, multiplied
from nearercamps.runs import camp_state
from nearercamps.splits import every_camps
from nearercamps.steps import even_step
from nearercamps.turns import is_kept_round, kept_camps
from nearercamps.ways import steps_along


def untold(machine):
    """Return machine, tuples for its lists. Raises Unfit() if some STEP tells shares."""
    steps, stands = frozen(machine)
    if not all([shares is None for _, shares in steps]):
        raise Unfit()
    return (steps, stands)


def is_led_on(looks, one, other):
    """Return whether LOOKS lead on the PAIR one to the PAIR other."""
    p, q = one
    first, second = looks[other[0]], looks[other[1]]
    return (p in first and q in second) or (q in first and p in second)


def every_pair(n):
    """Return the ascending list of all PAIRS of n places."""
    return [(p, q) for p in range(n) for q in range(p + 1, n)]


def led_on(looks, pairs):
    """Return the set of the PAIRS to which LOOKS lead on some of pairs."""
    return tuple([pair for pair in every_pair(len(looks)) if any([is_led_on(looks, one, pair) for one in pairs])])


def is_kept(machine, camps, row):
    """Return whether row is a round row that keeps camps."""
    return is_kept_round(untold(machine), frozen(row), frozen(camps))


def pairs_between(camps):
    """Return the set of the PAIRS of a place of the one LOT and one of the other."""
    return ascending([(min(p, q), max(p, q)) for p in camps[0] for q in camps[1]])


def parting_begins(machine):
    """Return a dict of the PAIRS of unlike LOTS of CAMPS that some round row keeps, each with such CAMPS and row."""
    kept = kept_camps(machine, every_camps(places_of(machine)))
    found = {}
    for camps in kept:
        for pair in pairs_between(camps):
            if pair not in found:
                found[pair] = (camps, kept[camps])
    return found


def parting_ways(machine):
    """Return a dict of what is parted, told by (stand, PAIR), each with a triple as parting_paper returns it."""
    steps, stands = machine
    begins = parting_begins(machine)
    found = {(0, pair): begins[pair] + ((),) for pair in begins}
    order = list(found)
    at = 0
    while at < len(order):
        stand, pair = order[at]
        camps, turn, row = found[(stand, pair)]
        for arrow, (step, end) in enumerate(stands[stand][1]):
            for going in led_on(steps[step][0], (pair,)):
                if (end, going) not in found:
                    found[(end, going)] = (camps, turn, row + (arrow,))
                    order.append((end, going))
        at += 1
    return found


def parted_pairs(machine, stand):
    """Return the set of the PAIRS that are parted at stand."""
    machine = untold(machine)
    if not is_number_below(stand, len(machine[1])):
        raise NoPlace(stand)
    return ascending([pair for there, pair in parting_ways(machine) if there == stand])


def meeting_lots(machine):
    """Return the ascending list of the LOTS whose places come together by told times."""
    machine = untold(machine)
    parted = {pair: True for _, pair in parting_ways(machine)}
    every = list(range(places_of(machine)))
    lots = []
    for p in every:
        lots.append(tuple([q for q in every if (min(p, q), max(p, q)) not in parted]))
    return sorted(set(lots))


def parting_paper(machine, pair):
    """Return a triple (camps, turn, row) that parts pair, None if it comes together by told times."""
    machine, pair = untold(machine), frozen(pair)
    for (_, parted), paper in parting_ways(machine).items():
        if parted == pair:
            return paper
    return None


def looks_of_row(machine, row):
    """Return the list of the LOOKS of the moves of a row from the beginning."""
    steps, stands = machine
    return [steps[step][0] for step in steps_along(stands, 0, row)]


def is_parting_paper(machine, pair, thing):
    """Return whether thing is a triple that parts pair."""
    machine = untold(machine)
    if not is_tuple_of(thing, 3) or not is_camps(thing[0], places_of(machine)):
        return False
    camps, turn, row = thing
    if not is_kept_round(machine, turn, camps) or not is_row(machine, 0, row):
        return False
    pairs = pairs_between(camps)
    for looks in looks_of_row(machine, row):
        pairs = led_on(looks, pairs)
    return frozen(pair) in pairs


def pairs_ahead(camps, looks_on_way, pair):
    """Return the list of couples (p, q), one for each move and one more, the last one being pair in some order.

    The first one is of a place of each LOT of camps; in each move p looks at the p ahead of it, q at the q.
    """
    found = [{(p, q): None for one, other in (camps, camps[::-1]) for p in one for q in other}]
    for looks in looks_on_way:
        ahead = {}
        for p, q in found[-1]:
            for couple in every_couple(looks, p, q):
                ahead[couple] = (p, q)
        found.append(ahead)
    couples = [pair]
    for ahead in reversed(found):
        couples.append(ahead[couples[-1]])
    return couples[-2::-1]


def every_couple(looks, p, q):
    """Return the list of the couples of unlike places of which the first one looks at p, the second one at q."""
    every = list(range(len(looks)))
    return [(one, other) for one in every for other in every if one != other and p in looks[one] and q in looks[other]]


def bent_row(lot, most, d):
    """Return shares for lot that are d but at the place most, which has the rest."""
    rest = minus(UNIT, multiplied((len(lot) - 1, 1), d))
    return tuple([rest if place == most else d for place in lot])


def bent_shares(looks, ahead, behind, d):
    """Return rows for LOOKS by which the places of a couple look at those of the couple ahead as much as can be."""
    rows = list(even_step(looks)[1])
    for place, most in zip(behind, ahead):
        rows[place] = bent_row(looks[place], most, d)
    return tuple(rows)


def parting_run(machine, pair, paper, many, d):
    """Return a STATE and the shares of many turns and a row, behind which the places of pair are far apart."""
    machine, pair, d = untold(machine), frozen(pair), frozen(d)
    camps, turn, row = frozen(paper)
    turns = looks_of_row(machine, turn) * many
    way = looks_of_row(machine, row)
    if any([is_less(UNIT, multiplied((len(lot), 1), d)) for looks in turns + way for lot in looks]):
        raise CanNot()
    shares = [even_step(looks)[1] for looks in turns]
    couples = pairs_ahead(camps, way, pair)
    for k, looks in enumerate(way):
        shares.append(bent_shares(looks, couples[k], couples[k + 1], d))
    return (camp_state(places_of(machine), camps), shares)
