"""Plain counting for section 23: a Board as a list of MACHINES, each deed done anew on lists; and drawn deeds."""

from tests import plain_machines as plain
from tests import plain_steps


class NotDone(Exception):
    """The name of the error that a deed raises, and its number or None."""


def frozen(value):
    return tuple(map(frozen, value)) if isinstance(value, (list, tuple)) else value


def well_led(stands):
    """Return whether each stand can be reached, and no ring of arrows leaves out the beginning."""
    reached = {0}
    for _ in stands:
        reached |= {end for k in reached for _, end in stands[k][1]}
    left = set(range(1, len(stands)))
    while left:
        done = {k for k in left if not any(end in left for _, end in stands[k][1])}
        if not done:
            return len(reached) == len(stands), False
        left -= done
    return len(reached) == len(stands), True


class Plain:
    def __init__(self, machine):
        self.machines, self.kept = [frozen(machine)], []

    @property
    def now(self):
        return self.machines[-1]

    def lists(self):
        """Return the MACHINE's STEPS as a list, and its stands as lists [owner, arrows]."""
        return list(self.now[0]), [[owner, list(arrows)] for owner, arrows in self.now[1]]

    def become(self, steps, stands):
        self.machines.append((frozen(steps), frozen(stands)))

    def places(self, told):
        """Raise NoPlace for the first of the pairs (number, many) that is none."""
        for number, many in told:
            if not 0 <= number < many:
                raise NotDone("NoPlace", number)

    def n(self):
        return len(self.now[0][0][0])

    def arrows(self, stand):
        return len(self.now[1][stand][1]) if 0 <= stand < len(self.now[1]) else 0

    def do(self, word, told):
        """Do a deed, or answer; return what the Board's method returns, or raise NotDone."""
        return getattr(self, "do_" + word)(*told)

    def do_look(self, step, place, lot):
        steps, stands = self.lists()
        self.places([(step, len(steps)), (place, self.n())])
        if not plain_steps.lot(frozen(lot), self.n()):
            raise NotDone("Unfit", None)
        looks = list(steps[step][0])
        looks[place] = lot
        steps[step] = (looks, None)
        self.become(steps, stands)

    def do_share(self, step, shares):
        steps, stands = self.lists()
        self.places([(step, len(steps))])
        steps[step] = (steps[step][0], frozen(shares))
        if not plain_steps.step(steps[step], self.n()):
            raise NotDone("Unfit", None)
        self.become(steps, stands)

    def do_add_step(self, step):
        steps, stands = self.lists()
        if not plain_steps.step(frozen(step), self.n()):
            raise NotDone("Unfit", None)
        self.become(steps + [step], stands)
        return len(steps)

    def do_drop_step(self, step):
        steps, stands = self.lists()
        self.places([(step, len(steps))])
        if any(step == own for _, arrows in stands for own, _ in arrows) or len(steps) == 1:
            raise NotDone("CanNot", None)
        del steps[step]
        for stand in stands:
            stand[1] = [(own - (own > step), end) for own, end in stand[1]]
        self.become(steps, stands)

    def do_own(self, stand, owner):
        steps, stands = self.lists()
        self.places([(stand, len(stands))])
        if owner not in ["ours", "any"]:
            raise NotDone("Unfit", None)
        stands[stand][0] = owner
        self.become(steps, stands)

    def do_lead(self, stand, step, end):
        steps, stands = self.lists()
        self.places([(stand, len(stands)), (step, len(steps)), (end, len(stands))])
        if (step, end) in stands[stand][1]:
            raise NotDone("Unfit", None)
        stands[stand][1].append((step, end))
        if not well_led(stands)[1]:
            raise NotDone("CanNot", None)
        self.become(steps, stands)
        return len(stands[stand][1]) - 1

    def do_cut(self, stand, arrow):
        steps, stands = self.lists()
        self.places([(stand, len(stands)), (arrow, self.arrows(stand))])
        del stands[stand][1][arrow]
        if not stands[stand][1] or not well_led(stands)[0]:
            raise NotDone("CanNot", None)
        self.become(steps, stands)

    def do_insert(self, stand, arrow, step):
        steps, stands = self.lists()
        self.places([(stand, len(stands)), (arrow, self.arrows(stand)), (step, len(steps))])
        old, end = stands[stand][1][arrow]
        stands[stand][1][arrow] = (old, len(stands))
        self.become(steps, stands + [["any", [(step, end)]]])
        return len(stands)

    def do_mark(self):
        self.kept.append(self.now)
        return len(self.kept) - 1

    def do_back(self, mark):
        self.places([(mark, len(self.kept))])
        self.machines.append(self.kept[mark])

    def do_undo(self):
        if len(self.machines) == 1:
            raise NotDone("NothingDone", None)
        self.machines.pop()

    def do_together(self):
        return plain.together(self.now)

    def do_always(self):
        return plain.together(plain.handed(self.now, ()))

    def do_changed(self, mark):
        self.places([(mark, len(self.kept))])
        kept = self.kept[mark]
        found = []
        if plain.together(plain.handed(kept, ())) != self.do_always():
            found.append("always")
        return tuple(found + (["together"] if plain.together(kept) != self.do_together() else []))

    def do_looked_at(self, place):
        self.places([(place, self.n())])
        return tuple(k for k, (looks, _) in enumerate(self.now[0])
                     if any(place in lot and p != place for p, lot in enumerate(looks)))

    def do_dead_steps(self):
        used = {step for _, arrows in self.now[1] for step, _ in arrows}
        return tuple(k for k in range(len(self.now[0])) if k not in used)


def draw_number(rng, many):
    return rng.choice([-1, many, many + 3]) if rng.random() < 0.08 else rng.randrange(max(1, many))


def draw_deed(rng, board):
    """Draw a deed or a question for a Plain: its word and what is told with it."""
    steps, stands, n = len(board.now[0]), len(board.now[1]), board.n()
    word = rng.choice("""look look share add_step drop_step own own lead lead lead cut cut insert insert mark back undo
                      together always changed looked_at dead_steps""".split())
    step, stand = draw_number(rng, steps), draw_number(rng, stands)
    arrow = draw_number(rng, board.arrows(stand))
    if word == "look":
        lot = plain_steps.draw_lot(rng, n) if rng.random() < 0.9 else rng.choice([(), (n,), (1, 0), (0, 0)])
        return word, (step, draw_number(rng, n), lot)
    if word == "share":
        looks = board.now[0][step][0] if 0 <= step < steps else plain_steps.draw_looks(rng, n)
        rows = plain_steps.draw_shares(rng, looks)
        return word, (step, rng.choice([rows, rows, None, rows[:-1], (((0, 1),),) + rows[1:]]))
    if word == "add_step":
        return word, (plain_steps.draw_step(rng, rng.choice([n, n, n, n + 1]), None, True),)
    if word in ("drop_step",):
        return word, (step,)
    if word == "own":
        return word, (stand, rng.choice(["ours", "any", "ours", "any", "anybody"]))
    if word == "lead":
        return word, (stand, step, draw_number(rng, stands))
    if word == "cut":
        return word, (stand, arrow)
    if word == "insert":
        return word, (stand, arrow, step)
    if word in ("back", "changed"):
        return word, (draw_number(rng, len(board.kept)),)
    return word, (draw_number(rng, n),) if word == "looked_at" else ()
