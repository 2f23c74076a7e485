"""A board: a MACHINE that is changed by deeds, which can be undone."""

from nearercamps.errors import CanNot, NoPlace, NothingDone, Unfit
from nearercamps.looks import is_lot
from nearercamps.machines import places_of
from nearercamps.owners import handed_over
from nearercamps.plain import ascending, frozen, is_number_below
from nearercamps.steps import is_step
from nearercamps.together import surely_together
from nearercamps.ways import inner_order, met_order

WORDS = ("always", "together")


def refuse_no_place(number, many):
    """Raise NoPlace(number) if it is no place among so many things."""
    if not is_number_below(number, many):
        raise NoPlace(number)


def replaced(things, place, one):
    """Return the tuple things with one at place."""
    return things[:place] + (one,) + things[place + 1:]


def left_out(things, place):
    """Return the tuple things without that at place."""
    return things[:place] + things[place + 1:]


def steps_on_arrows(stands):
    """Return the set of the places of the STEPS that arrows have."""
    return ascending([step for _, arrows in stands for step, _ in arrows])


def without_step(arrow, place):
    """Return an arrow with its STEP one place forward if it is behind place."""
    step, end = arrow
    return (step - 1 if step > place else step, end)


def answer(machine, word):
    """Return whether all come together: always, whoever owns the choices, or together, by a rule of ours."""
    return surely_together(handed_over(machine, ()) if word == "always" else machine)


class Board:
    """A MACHINE, what it was before each deed not yet undone, and what was kept by marks."""

    def __init__(self, machine):
        self.now = frozen(machine)
        self.before = []
        self.kept = []

    def machine(self):
        """Return the MACHINE."""
        return self.now

    def become(self, machine):
        """Make machine the MACHINE, by a deed."""
        self.before.append(self.now)
        self.now = machine

    def refuse_no_step(self, step):
        """Raise NoPlace(step) if it is the place of no STEP."""
        refuse_no_place(step, len(self.now[0]))

    def refuse_no_stand(self, stand):
        """Raise NoPlace(stand) if there is no such stand."""
        refuse_no_place(stand, len(self.now[1]))

    def refuse_no_arrow(self, stand, arrow):
        """Raise NoPlace for stand if there is none, then for arrow if it has none there."""
        self.refuse_no_stand(stand)
        refuse_no_place(arrow, len(self.now[1][stand][1]))

    def with_arrows(self, stand, arrows):
        """Return the stands in which this one has these arrows."""
        owner, _ = self.now[1][stand]
        return replaced(self.now[1], stand, (owner, arrows))

    def look(self, step, place, lot):
        """Make lot the LOT of this place in this STEP, whose shares are told no more."""
        steps, stands = self.now
        self.refuse_no_step(step)
        refuse_no_place(place, places_of(self.now))
        new = frozen(lot)
        if not is_lot(new, places_of(self.now)):
            raise Unfit()
        looks, _ = steps[step]
        self.become((replaced(steps, step, (replaced(looks, place, new), None)), stands))

    def share(self, step, shares):
        """Make these the shares of this STEP."""
        steps, stands = self.now
        self.refuse_no_step(step)
        new = (steps[step][0], frozen(shares))
        if not is_step(new, places_of(self.now)):
            raise Unfit()
        self.become((replaced(steps, step, new), stands))

    def add_step(self, step):
        """Put a new STEP behind all others; return its place."""
        steps, stands = self.now
        new = frozen(step)
        if not is_step(new, places_of(self.now)):
            raise Unfit()
        self.become((steps + (new,), stands))
        return len(steps)

    def drop_step(self, step):
        """Leave out a STEP that no arrow has."""
        steps, stands = self.now
        self.refuse_no_step(step)
        if step in steps_on_arrows(stands) or len(steps) == 1:
            raise CanNot()
        new = [(owner, tuple([without_step(arrow, step) for arrow in arrows])) for owner, arrows in stands]
        self.become((left_out(steps, step), tuple(new)))

    def own(self, stand, owner):
        """Make ours or any the owner of stand."""
        steps, stands = self.now
        self.refuse_no_stand(stand)
        if owner not in ("ours", "any"):
            raise Unfit()
        self.become((steps, replaced(stands, stand, (owner, stands[stand][1]))))

    def lead(self, stand, step, end):
        """Put a new arrow behind all others of stand; return its place."""
        steps, stands = self.now
        self.refuse_no_stand(stand)
        self.refuse_no_step(step)
        self.refuse_no_stand(end)
        arrows = stands[stand][1]
        if (step, end) in arrows:
            raise Unfit()
        new = self.with_arrows(stand, arrows + ((step, end),))
        if len(inner_order(new)) < len(new) - 1:
            raise CanNot()
        self.become((steps, new))
        return len(arrows)

    def cut(self, stand, arrow):
        """Leave out an arrow of stand."""
        steps, stands = self.now
        self.refuse_no_arrow(stand, arrow)
        arrows = left_out(stands[stand][1], arrow)
        new = self.with_arrows(stand, arrows)
        if arrows == () or len(met_order(0, [own for _, own in new])) < len(new):
            raise CanNot()
        self.become((steps, new))

    def insert(self, stand, arrow, step):
        """Put one more move behind an arrow of stand; return the new stand from which it leads on."""
        steps, stands = self.now
        self.refuse_no_arrow(stand, arrow)
        self.refuse_no_step(step)
        arrows = stands[stand][1]
        first, end = arrows[arrow]
        new = self.with_arrows(stand, replaced(arrows, arrow, (first, len(stands))))
        self.become((steps, new + (("any", ((step, end),)),)))
        return len(stands)

    def mark(self):
        """Keep the MACHINE as it is now; return the mark."""
        self.kept.append(self.now)
        return len(self.kept) - 1

    def back(self, mark):
        """Make what was kept by mark the MACHINE."""
        refuse_no_place(mark, len(self.kept))
        self.become(self.kept[mark])

    def undo(self):
        """Make the MACHINE what it was before the last deed not yet undone."""
        if self.before == []:
            raise NothingDone()
        self.now = self.before.pop()

    def together(self):
        """Return whether some rule of ours brings all together."""
        return answer(self.now, "together")

    def always(self):
        """Return whether every run comes together, whoever owns the choices."""
        return answer(self.now, "always")

    def changed(self, mark):
        """Return the set of the words whose answers are unlike now and in what was kept by mark."""
        refuse_no_place(mark, len(self.kept))
        return tuple([word for word in WORDS if answer(self.now, word) != answer(self.kept[mark], word)])

    def looked_at(self, place):
        """Return the set of the places of the STEPS in which another place looks at this one."""
        refuse_no_place(place, places_of(self.now))
        found = []
        for k, (looks, _) in enumerate(self.now[0]):
            if any([place in lot for one, lot in enumerate(looks) if one != place]):
                found.append(k)
        return tuple(found)

    def dead_steps(self):
        """Return the set of the places of the STEPS that no arrow has."""
        steps, stands = self.now
        used = steps_on_arrows(stands)
        return tuple([k for k in range(len(steps)) if k not in used])
