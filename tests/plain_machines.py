"""Plain counting for sections 7 to 10, by the words of the document; and MACHINES that are drawn."""

from fractions import Fraction
from functools import lru_cache
from itertools import combinations, product

from tests import plain_steps as plain


def arrow(thing, steps, stands):
    if type(thing) is not tuple or len(thing) != 2 or not plain.num(thing[0]) or not plain.num(thing[1]):
        return False
    return 0 <= thing[0] < steps and 0 <= thing[1] < stands


def stand(thing, steps, stands):
    if type(thing) is not tuple or len(thing) != 2 or type(thing[0]) is not str or thing[0] not in ["ours", "any"]:
        return False
    if type(thing[1]) is not tuple or len(thing[1]) == 0 or not all(arrow(own, steps, stands) for own in thing[1]):
        return False
    return sorted(set(thing[1])) == sorted(thing[1])


def machine(thing, n):
    if type(thing) is not tuple or len(thing) != 2 or type(thing[0]) is not tuple or type(thing[1]) is not tuple:
        return False
    steps, stands = thing
    if len(steps) == 0 or len(stands) == 0 or not all(plain.step(own, n) for own in steps):
        return False
    if not all(stand(own, len(steps), len(stands)) for own in stands):
        return False
    reached = {0}
    for _ in stands:
        reached |= {end for k in reached for _, end in stands[k][1]}
    # On a ring that leaves out 0 one can go on for as many arrows as one likes without coming to 0.
    going = set(range(1, len(stands)))
    for _ in stands:
        going = {end for k in going for _, end in stands[k][1]} - {0}
    return len(reached) == len(stands) and going == set()


def row(own, k, thing):
    if type(thing) is not tuple:
        return False
    for part in thing:
        if not plain.num(part) or not 0 <= part < len(own[1][k][1]):
            return False
        k = own[1][k][1][part][1]
    return True


def way(own, k, thing):
    """Return the lists of the STEPS and of the stands on the way of a row from stand k."""
    steps, stands = [], [k]
    for part in thing:
        step, k = own[1][k][1][part]
        steps.append(step)
        stands.append(k)
    return steps, stands


def rows(own, k, many):
    """Return the rows of so many arrows from stand k, in order."""
    if many == 0:
        return [()]
    found = []
    for part, (_, end) in enumerate(own[1][k][1]):
        found += [(part,) + rest for rest in rows(own, end, many - 1)]
    return found


def rounds(own, k=0):
    """Return the rows from stand k to the next coming to the beginning, in order."""
    found = []
    for part, (_, end) in enumerate(own[1][k][1]):
        found += [(part,)] if end == 0 else [(part,) + rest for rest in rounds(own, end)]
    return found


def alike_pairs(one, other):
    """Return the widest relation of stands that go alike, as a set of pairs of (0 or 1, stand)."""
    both = (one, other)
    nodes = [(side, k) for side in (0, 1) for k in range(len(both[side][1]))]
    pairs = set(product(nodes, nodes))

    def arrows(node):
        return [(both[node[0]][0][step], (node[0], end)) for step, end in both[node[0]][1][node[1]][1]]

    def alike(first, second):
        return first[0] == second[0] and (first[1], second[1]) in pairs

    def fits(a, b):
        if (a[1] == 0) != (b[1] == 0):
            return False
        for some, others in ((arrows(a), arrows(b)), (arrows(b), arrows(a))):
            if not all(any(alike(first, second) for second in others) for first in some):
                return False
        if all(alike(first, second) for first in arrows(a) for second in arrows(a)):
            return True
        return both[a[0]][1][a[1]][0] == both[b[0]][1][b[1]][0]

    while True:
        left = {pair for pair in pairs if fits(*pair)}
        if left == pairs:
            return pairs
        pairs = left


def camps(thing, n):
    if type(thing) is not tuple or len(thing) != 2 or not plain.lot(thing[0], n) or not plain.lot(thing[1], n):
        return False
    return not set(thing[0]) & set(thing[1]) and thing[0] < thing[1]


def every_camps(n):
    lots = plain.lots_of(n)
    return sorted((a, b) for a, b in combinations(lots, 2) if not set(a) & set(b))


def within(one, other):
    (a, b), (c, d) = ((set(lot) for lot in own) for own in (one, other))
    return (a <= c and b <= d) or (a <= d and b <= c)


@lru_cache(maxsize=None)
def led(looks, own):
    """Return what CAMPS are led to, by the numbers that a move makes of 0, 1 and 1/2."""
    n = len(looks)
    numbers = [Fraction(0) if p in own[0] else Fraction(1) if p in own[1] else Fraction(1, 2) for p in range(n)]
    behind = [sum(numbers[q] for q in lot) / len(lot) for lot in looks]
    a, b = (tuple(p for p in range(n) if behind[p] == number) for number in (0, 1))
    return tuple(sorted((a, b))) if a and b else None


def led_along(own, k, thing, some):
    steps, _ = way(own, k, thing)
    for step in steps:
        if some is not None:
            some = led(own[0][step][0], some)
    return some


class Game:
    """The game about CAMPS, counted move by move."""

    def __init__(self, own):
        self.stands = own[1]
        self.places = len(own[0][0][0])
        self.every = every_camps(self.places)
        self.maps = [{some: led(looks, some) for some in self.every} for looks, _ in own[0]]
        self.spots = [(k, some) for k in range(len(self.stands)) for some in self.every]
        self.ranks = self.count_ranks()

    def ends(self, k, some):
        found = []
        for step, end in self.stands[k][1]:
            going = self.maps[step][some]
            found.append(None if going is None else (end, going))
        return found

    def count_ranks(self):
        """For each number of arrows: who can be dead behind so many, if not behind fewer."""
        ranks = {}
        for rank in range(1, len(self.spots) + 1):
            fallen = []
            for k, some in self.spots:
                dead = [end is None or end in ranks for end in self.ends(k, some)]
                wins = any(dead) if self.stands[k][0] == "ours" else all(dead)
                if (k, some) not in ranks and wins:
                    fallen.append((k, some))
            if not fallen:
                break
            ranks.update({spot: rank for spot in fallen})
        return ranks

    def best(self, k, some):
        behind = [0 if end is None else self.ranks.get(end, 10 ** 9) for end in self.ends(k, some)]
        best = min(behind) if self.stands[k][0] == "ours" else max(behind)
        return tuple(part for part in range(len(behind)) if behind[part] == best)

    def is_spot(self, k, some):
        return plain.num(k) and 0 <= k < len(self.stands) and camps(some, self.places)

    def are_kill_ranks(self, thing):
        if type(thing) is not tuple:
            return False
        for triple in thing:
            if type(triple) is not tuple or len(triple) != 3 or not self.is_spot(triple[0], triple[1]):
                return False
            if not plain.num(triple[2]) or triple[2] < 1:
                return False
        if list(thing) != sorted(set(thing)) or len({triple[:2] for triple in thing}) < len(thing):
            return False
        for k, some, rank in thing:
            good = [end is None or any(end == own[:2] and own[2] < rank for own in thing) for end in self.ends(k, some)]
            if not (any(good) if self.stands[k][0] == "ours" else all(good)):
                return False
        return True

    def is_keeping_table(self, thing):
        if type(thing) is not tuple or len(thing) == 0:
            return False
        for spot in thing:
            if type(spot) is not tuple or len(spot) != 2 or not self.is_spot(spot[0], spot[1]):
                return False
        if list(thing) != sorted(set(thing)):
            return False
        for k, some in thing:
            kept = [end is not None and end in thing for end in self.ends(k, some)]
            if not (all(kept) if self.stands[k][0] == "ours" else any(kept)):
                return False
        return True

    def is_our_paper(self, thing):
        return self.are_kill_ranks(thing) and {triple[1] for triple in thing if triple[0] == 0} == set(self.every)

    def is_their_paper(self, thing):
        if type(thing) is not tuple or len(thing) != 2 or not camps(thing[0], self.places):
            return False
        return self.is_keeping_table(thing[1]) and (0, thing[0]) in thing[1]


def ring(own, thing):
    """Return whether thing is a RING of a MACHINE without choices of ours."""
    if type(thing) is not tuple or len(thing) != 2 or not camps(thing[0], len(own[0][0][0])):
        return False
    if not row(own, 0, thing[1]) or len(thing[1]) == 0 or way(own, 0, thing[1])[1][-1] != 0:
        return False
    behind = led_along(own, 0, thing[1], thing[0])
    return behind is not None and within(thing[0], behind)


def rule_walk(own, paper, thing):
    """Return the arrow of the rule of OUR PAPER behind a row, or "unfit", following the words of section 10."""
    every = every_camps(len(own[0][0][0]))
    ranks = {(k, some): rank for k, some, rank in paper}
    k, view, hunted = 0, set(every), min(every) if every else None

    def taken():
        if hunted is None:
            return 0
        for part, (step, end) in enumerate(own[1][k][1]):
            going = led(own[0][step][0], hunted)
            if going is None or ranks.get((end, going), 10 ** 9) < ranks[(k, hunted)]:
                return part
        raise AssertionError("some arrow is good")

    for part in thing:
        owner, arrows = own[1][k]
        if not 0 <= part < len(arrows) or (owner == "ours" and len(arrows) > 1 and part != taken()):
            return "unfit"
        step, k = arrows[part]
        view = {led(own[0][step][0], some) for some in view} - {None}
        hunted = None if hunted is None else led(own[0][step][0], hunted)
        if k == 0 and not view:
            view = set(every)
        if k == 0 and hunted is None and view:
            hunted = min(view)
    owner, arrows = own[1][k]
    return taken() if owner == "ours" and len(arrows) > 1 else "unfit"


def draw_machine(rng, n, stands, steps=3, owners=("ours", "any"), more=2, told=None):
    """Draw a MACHINE: a stand's arrows lead on in a drawn order of the stands, or to the beginning."""
    own_steps = tuple(plain.draw_step(rng, n, told, True) for _ in range(steps))
    order = [0] + rng.sample(range(1, stands), stands - 1)
    arrows = {k: [] for k in order}
    for at, k in enumerate(order[1:], 1):
        arrows[rng.choice(order[max(0, at - 3):at])].append((rng.randrange(steps), k))
    for at, k in enumerate(order):
        for _ in range(rng.randint(0 if arrows[k] else 1, more)):
            new = (rng.randrange(steps), rng.choice([0] + order[at + 1:at + 3]))
            if new not in arrows[k]:
                arrows[k].append(new)
    for k in order:
        rng.shuffle(arrows[k])
    return own_steps, tuple((rng.choice(owners), tuple(arrows[k])) for k in range(stands))


def spread_out(rng, own):
    """Draw a MACHINE that goes alike: STEPS told twice, stands copied, arrows told twice and mixed up."""
    steps, stands = own
    twice = tuple(step for step in steps for _ in (0, 1))
    copies = [(k, copy) for k in range(len(stands)) for copy in range(1 if k == 0 else 2)]
    made = {}
    for k, copy in copies:
        owner, arrows = stands[k]
        new = []
        for step, end in arrows:
            ends = [(end, 0)] if end == 0 else [(end, c) for c in rng.choice([(0,), (1,), (0, 1)])]
            new += [(2 * step + rng.randint(0, 1), to) for to in ends]
        rng.shuffle(new)
        if len({(steps[step], end) for step, end in arrows}) == 1:
            owner = rng.choice(["ours", "any"])
        made[(k, copy)] = (owner, new)
    reached = [(0, 0)]
    for spot in reached:
        reached += [to for to in dict.fromkeys(to for _, to in made[spot][1]) if to not in reached]
    numbers = {spot: k for k, spot in enumerate([reached[0]] + rng.sample(reached[1:], len(reached) - 1))}
    order = sorted(reached, key=numbers.get)
    return twice, tuple((made[s][0], tuple((step, numbers[to]) for step, to in made[s][1])) for s in order)


@lru_cache(maxsize=None)
def together(own):
    """Return whether some rule of ours brings all together, by the game about each pair of CAMPS."""
    game = Game(own)
    return all((0, some) in game.ranks for some in game.every)


def every_choice(own):
    return [k for k, (_, arrows) in enumerate(own[1]) if len(arrows) > 1]


def handed(own, stands):
    return own[0], tuple(("ours" if k in stands else "any", arrows) for k, (_, arrows) in enumerate(own[1]))


def struck(own, gone):
    """Return the MACHINE without these arrows, None if some stand would have none."""
    left = [[part for k, part in enumerate(arrows) if (s, k) not in gone] for s, (_, arrows) in enumerate(own[1])]
    if [] in left:
        return None
    reached = {0}
    for _ in left:
        reached |= {end for k in reached for _, end in left[k]}
    number = {k: at for at, k in enumerate(sorted(reached))}
    return own[0], tuple((own[1][k][0], tuple((step, number[end]) for step, end in left[k])) for k in sorted(reached))


def sets_of(things):
    """Return all sets of things, in order."""
    return sorted(some for many in range(len(things) + 1) for some in combinations(sorted(things), many))


def least_of(sets, is_right):
    """Return those of sets that are right and have no other right one within them, each tried."""
    right = [some for some in sets if is_right(some)]
    return [some for some in right if not any(set(one) < set(some) for one in right)]


def changed(own, looks, more):
    """Return the MACHINE with these looks added, if more, or left out, otherwise; None if a LOT would be ()."""
    steps = []
    for at, (lots, shares) in enumerate(own[0]):
        new = []
        for place, lot in enumerate(lots):
            some = {seen for step, own_place, seen in looks if step == at and own_place == place}
            new.append(tuple(sorted(set(lot) | some if more else set(lot) - some)))
        if () in new:
            return None
        steps.append((tuple(new), shares if tuple(new) == lots else None))
    return tuple(steps), own[1]
