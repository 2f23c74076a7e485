"""The rule of OUR PAPER: CAMPS are hunted down one after another."""

from nearercamps.errors import Unfit
from nearercamps.plain import is_number_below
from nearercamps.splits import every_camps, led_maps


class Hunt:
    """What the rule of a paper knows on its way: the stand, the CAMPS in view and those that are hunted."""

    def __init__(self, machine, paper):
        steps, stands = machine
        self.stands = stands
        self.maps = led_maps(steps)
        self.ranks = {(stand, camps): rank for stand, camps, rank in paper}
        self.every = every_camps(len(steps[0][0]))
        self.stand = 0
        self.view = []
        self.hunted = None
        self.look_out()

    def look_out(self):
        """Do what the rule does at the beginning."""
        if self.view == []:
            self.view = list(self.every)
        if self.hunted is None and self.view != []:
            self.hunted = min(self.view)

    def is_our_choice(self):
        """Return whether the stand is a choice of ours."""
        owner, arrows = self.stands[self.stand]
        return owner == "ours" and len(arrows) > 1

    def is_good(self, step, end):
        """Return whether an arrow by this STEP to this end is good for the hunted CAMPS."""
        going = self.maps[step][self.hunted]
        if going is None:
            return True
        return (end, going) in self.ranks and self.ranks[(end, going)] < self.ranks[(self.stand, self.hunted)]

    def arrow(self):
        """Return the arrow that the rule takes at a choice of ours."""
        if self.hunted is None:
            return 0
        arrows = self.stands[self.stand][1]
        good = [k for k, (step, end) in enumerate(arrows) if self.is_good(step, end)]
        return good[0]

    def take(self, arrow):
        """Go on by this arrow. Raises Unfit() if there is none, or the rule takes another one."""
        arrows = self.stands[self.stand][1]
        if not is_number_below(arrow, len(arrows)):
            raise Unfit()
        if self.is_our_choice() and arrow != self.arrow():
            raise Unfit()
        step, end = arrows[arrow]
        ends = self.maps[step]
        self.view = sorted(set([ends[camps] for camps in self.view if ends[camps] is not None]))
        if self.hunted is not None:
            self.hunted = ends[self.hunted]
        self.stand = end
        if end == 0:
            self.look_out()
