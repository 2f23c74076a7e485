"""STEPS as the lines of a text tell them: parts for the places that do not stand."""

from nearercamps.figures import quotient_by, quotient_text
from nearercamps.looks import stand_still
from nearercamps.names import are_unlike
from nearercamps.quotients import UNIT, total_of
from nearercamps.steps import free_step

ALL_STAND = "all stand"


def part_text(places, place, lot, row):
    """Return the part of a place that looks at lot; row has its told shares or is None."""
    seen = [places[one] for one in lot]
    if row is not None:
        seen = [f"{quotient_text(share)} {name}" for share, name in zip(row, seen)]
    return f"{places[place]} from " + " ".join(seen)


def step_text(places, step):
    """Return what tells step behind its NAME."""
    looks, shares = step
    moving = [place for place, lot in enumerate(looks) if lot != (place,)]
    if moving == [] and shares is None:
        return ALL_STAND
    if moving == []:
        moving = [0]
    parts = []
    for place in moving:
        parts.append(part_text(places, place, looks[place], None if shares is None else shares[place]))
    return "; ".join(parts)


def told_pairs(words):
    """Return the list of the pairs (NAME, share) of words, share None if none are told; None if they are not such."""
    told = quotient_by(words[0])
    if told is None:
        return [(word, None) for word in words]
    if len(words) % 2 == 1:
        return None
    pairs = [(words[k + 1], quotient_by(words[k])) for k in range(0, len(words), 2)]
    return None if None in [share for _, share in pairs] else pairs


def part_by(places, text):
    """Return the place of a part, its LOT and its told shares or None; None if text is no part."""
    words = text.split(" ")
    if len(words) < 3 or words[0] not in places or words[1] != "from":
        return None
    pairs = told_pairs(words[2:])
    if pairs is None or not all([name in places for name, _ in pairs]) or not are_unlike([name for name, _ in pairs]):
        return None
    seen = sorted([(places.index(name), share) for name, share in pairs])
    lot = tuple([place for place, _ in seen])
    if seen[0][1] is None:
        return places.index(words[0]), lot, None
    row = tuple([share for _, share in seen])
    if total_of(row) != UNIT or not all([top > 0 for top, _ in row]):
        return None
    return places.index(words[0]), lot, row


def step_by(places, text):
    """Return the STEP that text tells, None if it tells none."""
    looks = list(stand_still(len(places)))
    if text == ALL_STAND:
        return free_step(looks)
    parts = [part_by(places, part) for part in text.split("; ")]
    if None in parts or not are_unlike([place for place, _, _ in parts]):
        return None
    rows = [(UNIT,) for _ in places]
    for place, lot, row in parts:
        looks[place] = lot
        rows[place] = row
    told = [row is not None for _, _, row in parts]
    if not any(told):
        return free_step(looks)
    return (tuple(looks), tuple(rows)) if all(told) else None
