"""Plain reading and writing of texts of PLANS: line by line with patterns, and drawn texts of a PLAN."""

import re
from fractions import Fraction

from tests import plain_plans
from tests import plain_steps

SHARE = r"(?:[0-9]{1,40})(?:/[0-9]{1,40})?"
ORDER = {"": ["places"], "places": ["step"], "step": ["step", "piece", "within", "plan"],
         "piece": ["piece", "within", "plan"], "within": ["within", "plan"], "plan": ["deeds"],
         "deeds": ["deeds", "again"], "again": []}


def share(text):
    """Return the Fraction of a share, None if it is none."""
    if not re.fullmatch(SHARE, text) or any(int(part) == 0 for part in text.split("/")):
        return None
    return Fraction(*map(int, text.split("/")))


def split_top(text, sign):
    """Split text at a sign, but not within brackets; None if brackets do not fit."""
    parts, depth = [""], 0
    for letter in text:
        depth += {"(": 1, ")": -1}.get(letter, 0)
        if depth < 0:
            return None
        if letter == sign and depth == 0:
            parts.append("")
        else:
            parts[-1] += letter
    return parts if depth == 0 else None


def deeds(text, steps, begins):
    """Return the deeds of a text, None if it tells none."""
    words, found = split_top(text, " "), []
    while words:
        word = words.pop(0)
        if word in steps or word in begins:
            found.append(("step" if word in steps else "call", word))
        elif word in ("anybody", "ours") and words and re.fullmatch(r"\(.*\)", words[0]):
            branches = split_top(words.pop(0)[1:-1], "|")
            if branches is None or len(branches) < 2:
                return None
            inner = []
            for k, branch in enumerate(branches):
                left, right = k > 0, k < len(branches) - 1
                if (left and branch[:1] != " ") or (right and branch[-1:] != " "):
                    return None
                inner.append(deeds(branch[left:len(branch) - right], steps, begins))
            if None in inner or not all(plain_plans.move(part, begins) for part in inner):
                return None
            found.append((word, tuple(inner)))
        elif re.fullmatch("[1-9][0-9]{0,8}", word) and words[:1] == ["times"] and len(words) > 1:
            words.pop(0)
            told = words.pop(0)
            inner = deeds(told[1:-1], steps, begins) if re.fullmatch(r"\(.*\)", told) else None
            if inner is None:
                return None
            found.append(("times", int(word), inner))
        else:
            return None
    return tuple(found) or None


def step(text, places):
    """Return the STEP of what stands behind its NAME, None if it is none."""
    n = len(places)
    looks, rows = [(p,) for p in range(n)], [((1, 1),) for _ in range(n)]
    if text == "all stand":
        return tuple(looks), None
    told, met = set(), set()
    for part in text.split("; "):
        words = part.split(" ")
        if len(words) < 3 or words[0] not in places or words[0] in met or words[1] != "from":
            return None
        met.add(words[0])
        p, seen = places.index(words[0]), words[2:]
        told.add(share(seen[0]) is not None)
        if share(seen[0]) is not None:
            if len(seen) % 2:
                return None
            shares, seen = [share(word) for word in seen[::2]], seen[1::2]
            if None in shares or sum(shares) != 1:
                return None
        if not all(name in places for name in seen) or len(set(seen)) < len(seen):
            return None
        looks[p] = tuple(sorted(places.index(name) for name in seen))
        if told == {True}:
            by_place = {places.index(name): number for name, number in zip(seen, shares)}
            rows[p] = tuple(plain_steps.pair_of(by_place[q]) for q in looks[p])
    if len(told) > 1:
        return None
    return tuple(looks), tuple(rows) if told == {True} else None


def kind_of(line):
    if line in ("plan", "again"):
        return line
    if line.startswith("  "):
        return "deeds"
    word = line.split(" ")[0]
    return word if word in ("places", "step", "piece", "within") and line != word else None


def read(text):
    """Return the PLAN of a text, or the number of the first bad line."""
    kind, lines = "", text.split("\n")
    places, steps, pieces, begins, wants, done = (), {}, {}, {}, {}, ()
    for k, line in enumerate(lines, 1):
        new = kind_of(line)
        if new not in ORDER[kind]:
            return k
        kind, bad = new, False
        rest = line.partition(" ")[2]
        name, colon, told = rest.partition(": ")
        if kind == "places":
            places = tuple(rest.split(" "))
            bad = not all(map(plain_plans.name, places)) or len(set(places)) < len(places)
        elif kind == "step":
            bad = not plain_plans.name(name) or name in steps or step(told, places) is None
            steps[name] = step(told, places)
        elif kind == "piece":
            bad = not plain_plans.name(name) or name in steps or name in pieces
            pieces[name] = deeds(told, steps, begins)
            bad = bad or pieces[name] is None
            begins[name] = not bad and plain_plans.move(pieces[name], begins)
        elif kind == "within":
            found = re.fullmatch("([1-9][0-9]{0,8}) ([a-z]+)", rest)
            bad = not found or found[2] not in steps or found[2] in wants
            if not bad:
                wants[found[2]] = int(found[1])
        elif kind == "deeds":
            more = deeds(line[2:], steps, begins)
            bad = more is None
            done += more or ()
        if bad:
            return k
    if kind != "again":
        return len(lines) + 1
    return places, tuple(steps.items()), tuple(pieces.items()), done, tuple(sorted(wants.items()))


def share_text(rng, pair):
    """Return a share in drawn terms, maybe with zeros ahead."""
    times = rng.choice([1, 1, 2, 7, 10 ** 20])
    top, bottom = ("0" * rng.choice([0, 0, 3]) + str(number * times) for number in pair)
    return top[-40:] if pair[1] == 1 and times == 1 and rng.random() < 0.5 else f"{top[-40:]}/{bottom[-40:]}"


def step_line(rng, places, own):
    looks, shares = own
    parts = []
    for p, lot in enumerate(looks):
        if lot == (p,) and rng.random() < 0.7:
            continue
        order = rng.sample(range(len(lot)), len(lot))
        seen = [places[lot[k]] for k in order]
        if shares is not None:
            seen = [share_text(rng, shares[p][k]) + " " + name for k, name in zip(order, seen)]
        parts.append(places[p] + " from " + " ".join(seen))
    rng.shuffle(parts)
    if not parts and shares is None:
        return "all stand"
    if not parts:
        p = rng.randrange(len(places))
        return f"{places[p]} from {share_text(rng, (1, 1))} {places[p]}"
    return "; ".join(parts)


def deeds_line(own):
    words = []
    for part in own:
        if part[0] in ("step", "call"):
            words.append(part[1])
        elif part[0] == "times":
            words.append(f"{part[1]} times ({deeds_line(part[2])})")
        else:
            words.append(part[0] + " (" + " | ".join(map(deeds_line, part[1])) + ")")
    return " ".join(words)


def draw_text(rng, plan):
    """Return a drawn text of a PLAN: parts, NAMES and within lines in any order, shares in any terms."""
    places, steps, pieces, done, wants = plan
    lines = ["places " + " ".join(places)]
    lines += [f"step {name}: {step_line(rng, places, own)}" for name, own in steps]
    lines += [f"piece {name}: {deeds_line(own)}" for name, own in pieces]
    lines += [f"within {many} {name}" for name, many in rng.sample(wants, len(wants))] + ["plan"]
    while done:
        many = rng.randint(1, len(done))
        lines.append("  " + deeds_line(done[:many]))
        done = done[many:]
    return "\n".join(lines + ["again"])
