"""Plain counting for section 22: which CLAIMS there are, which are so, what PAPERS are, and what comes of what."""

from fractions import Fraction
from functools import lru_cache

from nearercamps import shares
from tests import plain_lots
from tests import plain_machines as plain
from tests import plain_steps


def places(own):
    return len(own[0][0][0])


def closed(own, lot):
    used = {step for _, arrows in own[1] for step, _ in arrows}
    return all(set(own[0][step][0][p]) <= set(lot) for step in used for p in lot)


@lru_cache(maxsize=None)
def always(own):
    return plain.together(plain.handed(own, ()))


def claim(own, thing):
    """Return whether thing is a CLAIM for a MACHINE."""
    if type(thing) is not tuple or len(thing) == 0 or type(thing[0]) is not str:
        return False
    if thing in (("together",), ("always",)) or (thing == ("agreed",) and always(own)):
        return True
    if len(thing) != 2:
        return False
    word, told = thing
    if word == "window":
        return plain_steps.num(told) and 1 <= told <= 200
    if word in ("enough", "needed"):
        if type(told) is not tuple or not all(plain_steps.num(k) for k in told):
            return False
        return list(told) == sorted(set(told)) and set(told) <= set(plain.every_choice(own))
    if word in ("holds", "heard"):
        return plain_steps.lot(told, places(own)) and (word == "heard" or closed(own, told))
    return False


def window(own):
    """Return L of a MACHINE without choices of ours in which all comes together, by how long CAMPS live."""
    alive, moves = {(0, some) for some in plain.every_camps(places(own))}, 0
    while alive:
        alive = {(end, plain.led(own[0][step][0], some)) for k, some in alive for step, end in own[1][k][1]}
        alive = {(k, some) for k, some in alive if some is not None}
        moves += 1
    return max(moves, 1)


def lots(own, word, lot):
    n = places(own)
    if word == "holds":
        return plain_lots.Lots(own, plain_lots.outside, tuple(p for p in range(n) if p not in lot), ())
    return plain_lots.Lots(own, plain_lots.hearers, lot, tuple(range(n)))


@lru_cache(maxsize=None)
def so(own, thing):
    """Return whether a CLAIM is so."""
    word, told = thing[0], thing[-1]
    if word == "together":
        return plain.together(own)
    if word == "always":
        return always(own)
    if word == "window":
        return always(own) and window(plain.handed(own, ())) <= told
    if word == "enough":
        return plain.together(plain.handed(own, told))
    if word == "needed":
        fewer = [tuple(k for k in told if k != one) for one in told]
        return so(own, ("enough", told)) and not any(so(own, ("enough", some)) for some in fewer)
    if word == "agreed":
        return len(shares.kept_sums(own)) > 0
    first = lots(own, word, told)
    return (0, first.first) in first.ranks()


def every_claim(own, windows=(1, 2, 3, 4, 5, 10, 200)):
    """Return the list of all CLAIMS for a MACHINE, of the windows only these."""
    found = [("together",), ("always",)] + ([("agreed",)] if always(own) else [])
    found += [("window", many) for many in windows]
    found += [(word, some) for word in ("enough", "needed") for some in plain.sets_of(plain.every_choice(own))]
    for lot in plain_steps.lots_of(places(own)):
        found += [("heard", lot)] + ([("holds", lot)] if closed(own, lot) else [])
    return found


@lru_cache(maxsize=None)
def game(own):
    return plain.Game(own)


def paper_for(own, thing, paper):
    """Return whether paper is a PAPER for a CLAIM."""
    word, told = thing[0], thing[-1]
    if word in ("holds", "heard"):
        return lots(own, word, told).is_plan(paper)
    if word == "agreed":
        if type(paper) is not tuple or len(paper) == 0 or not plain_steps.state(paper[0], places(own)):
            return False
        return sum(Fraction(*pair) for pair in paper[0]) == 1 and shares.is_kept_rows(own, paper[0], paper)
    if word in ("always", "window"):
        if not game(plain.handed(own, ())).is_our_paper(paper):
            return False
        return word == "always" or all(rank <= told for k, _, rank in paper if k == 0)
    if word == "together":
        return game(own).is_our_paper(paper)
    if word == "enough":
        return game(plain.handed(own, told)).is_our_paper(paper)
    if type(paper) is not tuple or len(paper) != 2 or not game(plain.handed(own, told)).is_our_paper(paper[0]):
        return False
    if type(paper[1]) is not tuple or len(paper[1]) != len(told):
        return False
    fewer = [tuple(k for k in told if k != one) for one in told]
    return all(game(plain.handed(own, some)).is_their_paper(part) for some, part in zip(fewer, paper[1]))


def paper_against(own, thing, paper):
    """Return whether paper is a PAPER against a CLAIM."""
    word, told = thing[0], thing[-1]
    free = plain.handed(own, ())
    if word in ("holds", "heard"):
        return lots(own, word, told).is_shun(paper)
    if word == "agreed":
        return shares.is_two_ends(own, paper)
    if word == "always":
        return plain.ring(free, paper)
    if word == "together":
        return game(own).is_their_paper(paper)
    if word in ("enough", "needed") and game(plain.handed(own, told)).is_their_paper(paper):
        return True
    if word == "enough" or type(paper) is not tuple or len(paper) != 2:
        return False
    if word == "window":
        if not plain.camps(paper[0], places(own)) or not plain.row(free, 0, paper[1]) or len(paper[1]) != told:
            return False
        return plain.led_along(free, 0, paper[1], paper[0]) is not None
    if not plain_steps.num(paper[0]) or paper[0] not in told:
        return False
    return game(plain.handed(own, tuple(k for k in told if k != paper[0]))).is_our_paper(paper[1])


def comes(own, told, windows):
    """Return the set of all CLAIMS, of the windows these, that come of told by the rules, one after the other."""
    every = every_claim(own, windows)
    ours = tuple(k for k in plain.every_choice(own) if own[1][k][0] == "ours")
    found = set(told)

    def direct(one, other):
        if {one, other} in ({("always",), ("enough", ())}, {("together",), ("enough", ours)}):
            return True
        if one[0] == "needed" and other == ("enough", one[1]):
            return True
        if one[0] == "window" and (other == ("always",) or (other[0] == "window" and other[1] > one[1])):
            return True
        return one[0] == other[0] and one[0] in ("enough", "heard", "holds") and set(one[1]) <= set(other[1])

    while True:
        more = {other for one in found for other in every if direct(one, other)} - found
        if not more:
            return found
        found |= more
