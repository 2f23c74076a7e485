"""Plain counting for section 6: what PLANS are, their rounds by the words of the deeds, and drawn PLANS."""

from tests import plain_steps

WORDS = "places step from all stand piece within plan again anybody ours times".split()
NAMES = ["a", "b", "c", "hold", "mix", "swap", "forth", "back", "z", "stands", "every", "timesh", "abcdefgh"]


def name(thing):
    if type(thing) is not str or not 1 <= len(thing) <= 8 or thing in WORDS:
        return False
    return all("a" <= sign <= "z" for sign in thing)


def move(deeds, begins):
    """Return whether deeds begin with a move."""
    first = deeds[0]
    if first[0] == "times":
        return move(first[2], begins)
    return first[0] == "step" or (first[0] == "call" and begins[first[1]])


def all_deeds(thing, steps, begins):
    return type(thing) is tuple and len(thing) > 0 and all(deed(part, steps, begins) for part in thing)


def deed(thing, steps, begins):
    if type(thing) is not tuple or len(thing) not in (2, 3) or type(thing[0]) is not str:
        return False
    if thing[0] == "times":
        return len(thing) == 3 and plain_steps.num(thing[1]) and thing[1] > 0 and all_deeds(thing[2], steps, begins)
    if len(thing) == 3:
        return False
    if thing[0] in ("anybody", "ours"):
        if type(thing[1]) is not tuple or len(thing[1]) < 2:
            return False
        return all(all_deeds(part, steps, begins) and move(part, begins) for part in thing[1])
    if type(thing[1]) is not str:
        return False
    return (thing[0] == "step" and thing[1] in steps) or (thing[0] == "call" and thing[1] in begins)


def pairs(thing):
    return type(thing) is tuple and all(type(own) is tuple and len(own) == 2 and name(own[0]) for own in thing)


def plan(thing):
    """Return whether thing is a PLAN."""
    if type(thing) is not tuple or len(thing) != 5 or type(thing[0]) is not tuple or len(thing[0]) == 0:
        return False
    places, steps, pieces, deeds, within = thing
    if not all(name(own) for own in places) or len(set(places)) < len(places):
        return False
    if not pairs(steps) or len(steps) == 0 or not pairs(pieces) or not pairs(within):
        return False
    names = [own for own, _ in steps + pieces]
    if len(set(names)) < len(names) or not all(plain_steps.step(own, len(places)) for _, own in steps):
        return False
    known, begins = {own for own, _ in steps}, {}
    for own, part in pieces:
        if not all_deeds(part, known, begins):
            return False
        begins[own] = move(part, begins)
    if not all(own in known and plain_steps.num(many) and many > 0 for own, many in within):
        return False
    return [own for own, _ in within] == sorted({own for own, _ in within}) and all_deeds(deeds, known, begins)


def written(deeds, pieces):
    """Return deeds written out."""
    found = []
    for part in deeds:
        if part[0] == "step":
            found.append(part)
        elif part[0] == "call":
            found += written(dict(pieces)[part[1]], pieces)
        elif part[0] == "times":
            for _ in range(part[1]):
                found += written(part[2], pieces)
        else:
            found.append((part[0], tuple(written(branch, pieces) for branch in part[1])))
    return tuple(found)


def has_calls(deeds):
    return any(part[0] in ("call", "times") or (part[0] != "step" and any(map(has_calls, part[1]))) for part in deeds)


def stands(deeds):
    """Return the MACHINE's stands of deeds written out: lists [owner, arrows (name, end)], read one by one."""
    made = []

    def ahead(part, first):
        """Give part its stands as one reads; first is the stand of the choice whose branch it begins, or None."""
        if first is None:
            made.append(["any", []])
        here = len(made) - 1 if first is None else first
        branches = []
        if part[0] != "step":
            for branch in part[1]:
                branches.append([ahead(one, here if k == 0 else None) for k, one in enumerate(branch)])
        return here, part, branches

    def lead(told, behind):
        for k, (here, part, branches) in enumerate(told):
            end = told[k + 1][0] if k + 1 < len(told) else behind
            if part[0] == "step":
                if (part[1], end) not in made[here][1]:
                    made[here][1].append((part[1], end))
            for branch in branches:
                lead(branch, end)
            if part[0] == "ours" and len(made[here][1]) > 1:
                made[here][0] = "ours"

    lead([ahead(part, None) for part in deeds], 0)
    return made


def machine(own):
    """Return the MACHINE of a PLAN without within."""
    _, steps, pieces, deeds, _ = own
    place = {part: k for k, (part, _) in enumerate(steps)}
    told = tuple((owner, tuple((place[part], end) for part, end in arrows))
                 for owner, arrows in stands(written(deeds, pieces)))
    return tuple(step for _, step in steps), told


def ways(deeds, pieces):
    """Return the list of the rows of names of STEPS by which deeds can be done."""
    found = [()]
    for part in deeds:
        if part[0] == "step":
            more = [(part[1],)]
        elif part[0] == "call":
            more = ways(dict(pieces)[part[1]], pieces)
        elif part[0] == "times":
            more = [()]
            for _ in range(part[1]):
                more = [one + other for one in more for other in ways(part[2], pieces)]
        else:
            more = [row for branch in part[1] for row in ways(branch, pieces)]
        found = [one + other for one in found for other in more]
    return found


def draw_deeds(rng, steps, pieces, depth, is_branch=False):
    """Draw deeds; pieces tells of those that may be called whether they begin with a move."""
    found = []
    for k in range(rng.choice([1, 1, 2, 3])):
        kinds = ["step", "step", "step"] + (["call"] if pieces else []) + (["times", "choice"] if depth else [])
        kind = rng.choice(kinds)
        first = is_branch and k == 0
        if kind == "choice" and not first:
            branches = tuple(draw_deeds(rng, steps, pieces, depth - 1, True) for _ in range(rng.choice([2, 2, 3])))
            found.append((rng.choice(["anybody", "ours"]), branches))
        elif kind == "times":
            found.append(("times", rng.choice([1, 2, 2, 3]), draw_deeds(rng, steps, pieces, depth - 1, first)))
        elif kind == "call" and (not first or any(pieces.values())):
            found.append(("call", rng.choice([part for part in pieces if pieces[part] or not first])))
        else:
            found.append(("step", rng.choice(steps)))
    return tuple(found)


def draw_plan(rng, most_places=3, depth=2, within=True):
    """Draw a PLAN."""
    n, many = rng.randint(1, most_places), rng.randint(1, 3)
    places = tuple(rng.sample(NAMES, n))
    names = rng.sample(NAMES, many + rng.randint(0, 2))
    steps = tuple((own, plain_steps.draw_step(rng, n, None, rng.random() < 0.7)) for own in names[:many])
    pieces, begins = (), {}
    for own in names[many:]:
        pieces += ((own, draw_deeds(rng, names[:many], begins, 1)),)
        begins[own] = move(pieces[-1][1], begins)
    deeds = draw_deeds(rng, names[:many], begins, depth)
    wants = ()
    if within and rng.random() < 0.3:
        wants = tuple((own, rng.randint(1, 9)) for own in sorted(rng.sample(names[:many], rng.randint(1, many))))
    return places, steps, pieces, deeds, wants


def drawn_plans(rng, many, most_places=3, depth=2, within=True):
    return [draw_plan(rng, most_places, depth, within) for _ in range(many)]
