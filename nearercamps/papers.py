"""One judge: claims about a MACHINE, and papers for them and against them."""

from nearercamps.camps import is_camps
from nearercamps.errors import Unfit
from nearercamps.looks import is_lot, is_wider
from nearercamps.machines import choices, is_row, places_of
from nearercamps.owners import handed_over, is_choice, is_enough, is_needed_paper, needed_paper, without_one
from nearercamps.plain import frozen, is_filled_tuple, is_number, is_rising, is_tuple_of
from nearercamps.quotients import UNIT, total_of
from nearercamps.say import can_be_heard, is_mute_plan, is_voice_plan, mute_plan, voice_plan
from nearercamps.shares import agreed_sum, is_kept_rows, is_two_ends, kept_rows, kept_sums, two_ends
from nearercamps.splits import is_part
from nearercamps.steps import is_state
from nearercamps.stubborn import can_hold, hold_plan, is_closed_in, is_hold_plan, is_slip_plan, slip_plan
from nearercamps.together import camp_ring, is_camp_ring, is_our_paper, is_their_paper, our_paper, surely_together
from nearercamps.together import their_paper
from nearercamps.windows import lives_along, slow_row, window

MOST_MOVES = 200
CARRIED = ("together", "always", "window", "enough", "heard")


def is_set_of_choices(machine, thing):
    """Return whether thing is a set of choices of machine, whoever owns them."""
    if not isinstance(thing, tuple) or not all([is_choice(machine[1], stand) for stand in thing]):
        return False
    return is_rising(thing)


def is_claim(machine, thing):
    """Return whether thing is a CLAIM for machine."""
    if not is_filled_tuple(thing) or len(thing) > 2:
        return False
    if len(thing) == 1:
        if thing[0] == "agreed":
            return surely_together(handed_over(machine, ()))
        return thing[0] in ("together", "always")
    word, told = thing
    if word == "window":
        return is_number(told) and 1 <= told <= MOST_MOVES
    if word in ("enough", "needed"):
        return is_set_of_choices(machine, told)
    if word == "holds":
        return is_lot(told, places_of(machine)) and is_closed_in(machine, told)
    return word == "heard" and is_lot(told, places_of(machine))


def fit_claim(machine, claim):
    """Return claim with tuples for lists. Raises Unfit() if it is none for machine."""
    own = frozen(claim)
    if not is_claim(machine, own):
        raise Unfit()
    return own


def fit_claims(machine, claims):
    """Return the list of claims with tuples for lists. Raises Unfit() if one is none for machine."""
    return [fit_claim(machine, claim) for claim in claims]


def machine_told(machine, claim):
    """Return the MACHINE about which PAPERS for claim and against it are."""
    if claim[0] in ("enough", "needed"):
        return handed_over(machine, claim[1])
    if claim[0] in ("always", "window"):
        return handed_over(machine, ())
    return frozen(machine)


def is_needed(machine, stands):
    """Return whether stands are needed ones."""
    others = [without_one(stands, stand) for stand in stands]
    return is_enough(machine, stands) and not any([is_enough(machine, some) for some in others])


def holds_true(machine, claim):
    """Return whether a CLAIM is so."""
    word = claim[0]
    if word == "window":
        life = window(machine_told(machine, claim))
        return life is not None and life <= claim[1]
    if word == "needed":
        return is_needed(machine, claim[1])
    if word == "holds":
        return can_hold(machine, claim[1])
    if word == "heard":
        return can_be_heard(machine, claim[1])
    if word == "agreed":
        return kept_sums(machine) != ()
    return surely_together(machine_told(machine, claim))


def is_so(machine, claim):
    """Return whether claim is so."""
    return holds_true(machine, fit_claim(machine, claim))


def paper_for(machine, claim):
    """Return a PAPER for a CLAIM that is so."""
    word = claim[0]
    if word == "needed":
        return needed_paper(machine, claim[1])
    if word == "holds":
        return hold_plan(machine, claim[1])
    if word == "heard":
        return voice_plan(machine, claim[1])
    if word == "agreed":
        return kept_rows(machine, agreed_sum(machine))
    return our_paper(machine_told(machine, claim))


def long_life(machine, many):
    """Return CAMPS and a row of so many arrows from the beginning along which they live; there are such."""
    ring = camp_ring(machine)
    if ring is None:
        camps, row = slow_row(machine)
        return (camps, row[:many])
    camps, row = ring
    return (camps, (row * many)[:many])


def needless_paper(machine, stands):
    """Return a PAPER against stands, that are not needed ones, being needed."""
    for stand in stands:
        paper_of_others = our_paper(handed_over(machine, without_one(stands, stand)))
        if paper_of_others is not None:
            return (stand, paper_of_others)
    return their_paper(handed_over(machine, stands))


def paper_against(machine, claim):
    """Return a PAPER against a CLAIM that is not so."""
    word = claim[0]
    if word == "always":
        return camp_ring(machine_told(machine, claim))
    if word == "window":
        return long_life(machine_told(machine, claim), claim[1])
    if word == "needed":
        return needless_paper(machine, claim[1])
    if word == "holds":
        return slip_plan(machine, claim[1])
    if word == "heard":
        return mute_plan(machine, claim[1])
    if word == "agreed":
        return two_ends(machine)
    return their_paper(machine_told(machine, claim))


def paper(machine, claim):
    """Return a PAPER for claim if it is so, otherwise one against it."""
    own = fit_claim(machine, claim)
    return paper_for(machine, own) if holds_true(machine, own) else paper_against(machine, own)


def are_agreed_rows(machine, thing):
    """Return whether thing is kept rows for a row with 1 in all, which is the first of them."""
    if not is_filled_tuple(thing) or not is_state(thing[0], places_of(machine)):
        return False
    return total_of(thing[0]) == UNIT and is_kept_rows(machine, thing[0], thing)


def speaks_for(machine, claim, thing):
    """Return whether thing is a PAPER for a CLAIM."""
    word = claim[0]
    if word == "needed":
        return is_needed_paper(machine, claim[1], thing)
    if word == "holds":
        return is_hold_plan(machine, claim[1], thing)
    if word == "heard":
        return is_voice_plan(machine, claim[1], thing)
    if word == "agreed":
        return are_agreed_rows(machine, thing)
    if not is_our_paper(machine_told(machine, claim), thing):
        return False
    return word != "window" or all([rank <= claim[1] for stand, _, rank in thing if stand == 0])


def is_paper_for(machine, claim, thing):
    """Return whether thing is a PAPER for claim."""
    return speaks_for(machine, fit_claim(machine, claim), thing)


def is_long_life(machine, many, thing):
    """Return whether thing is CAMPS and a row of so many arrows from the beginning along which they live."""
    if not is_tuple_of(thing, 2) or not is_camps(thing[0], places_of(machine)) or not is_row(machine, 0, thing[1]):
        return False
    return len(thing[1]) == many and lives_along(machine, thing[1], thing[0])


def is_needless(machine, stands, thing):
    """Return whether thing is one of stands and OUR PAPER of the MACHINE in which the others are handed over."""
    if not is_tuple_of(thing, 2) or not is_number(thing[0]) or thing[0] not in stands:
        return False
    return is_our_paper(handed_over(machine, without_one(stands, thing[0])), thing[1])


def speaks_against(machine, claim, thing):
    """Return whether thing is a PAPER against a CLAIM."""
    word = claim[0]
    own = machine_told(machine, claim)
    if word == "always":
        return is_camp_ring(own, thing)
    if word == "window":
        return is_long_life(own, claim[1], thing)
    if word == "holds":
        return is_slip_plan(machine, claim[1], thing)
    if word == "heard":
        return is_mute_plan(machine, claim[1], thing)
    if word == "agreed":
        return is_two_ends(machine, thing)
    if word == "needed" and is_needless(machine, claim[1], thing):
        return True
    return is_their_paper(own, thing)


def is_paper_against(machine, claim, thing):
    """Return whether thing is a PAPER against claim."""
    return speaks_against(machine, fit_claim(machine, claim), thing)


def verdict(machine, claim, thing):
    """Return the word for, against or none for a CLAIM and a value that may be a PAPER."""
    if speaks_for(machine, claim, thing):
        return "for"
    return "against" if speaks_against(machine, claim, thing) else "none"


def verdicts(machine, claims, things):
    """Return the list of the verdicts of claims and the things at their places."""
    every = fit_claims(machine, claims)
    if len(every) != len(things):
        raise Unfit()
    return [verdict(machine, claim, thing) for claim, thing in zip(every, things)]


def enough_sets(machine, claims):
    """Return the list of the sets of choices that are enough by what claims, CLAIMS, say themselves."""
    found = []
    for claim in claims:
        if claim[0] in ("enough", "needed"):
            found.append(claim[1])
        elif claim[0] in ("always", "window"):
            found.append(())
        elif claim[0] == "together":
            found.append(choices(machine, "ours"))
    return found


def comes_of_enough(machine, claim, sets):
    """Return whether a CLAIM comes of sets of choices being enough."""
    if claim[0] == "enough":
        return any([is_part(some, claim[1]) for some in sets])
    if claim[0] == "together":
        return any([is_part(some, choices(machine, "ours")) for some in sets])
    return claim[0] == "always" and () in sets


def comes_of(machine, claim, claims):
    """Return whether claim comes of claims."""
    own = fit_claim(machine, claim)
    every = fit_claims(machine, claims)
    if own in every or comes_of_enough(machine, own, enough_sets(machine, every)):
        return True
    alike = [one for one in every if one[0] == own[0]]
    if own[0] == "window":
        return any([many < own[1] for _, many in alike])
    return own[0] in ("holds", "heard") and any([is_part(lot, own[1]) for _, lot in alike])


def carries_over(machine, claim, other):
    """Return whether claim carries over to other."""
    own = fit_claim(machine, claim)
    steps, stands = frozen(machine)
    more, same = frozen(other)
    if own[0] not in CARRIED or places_of(machine) != places_of(other) or len(more) != len(steps) or same != stands:
        return False
    return all([is_wider(looks, narrow) for (looks, _), (narrow, _) in zip(more, steps)])


def first_false(machine, claims):
    """Return the first place whose CLAIM is not so, None if all are."""
    for place, claim in enumerate(fit_claims(machine, claims)):
        if not holds_true(machine, claim):
            return place
    return None
