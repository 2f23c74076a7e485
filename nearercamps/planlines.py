"""PLANS as texts: lines that tell places, steps, pieces and deeds."""

from nearercamps.deedwords import deeds_by, deeds_text, number_by
from nearercamps.deeds import begins_with_move
from nearercamps.errors import BadLine
from nearercamps.names import are_names, is_name
from nearercamps.plain import frozen
from nearercamps.stepwords import step_by, step_text

# Which kinds of lines may stand behind a line of a kind, "" being what is ahead of the first one.
FOLLOWERS = {
    "": ("places",),
    "places": ("step",),
    "step": ("step", "piece", "within", "plan"),
    "piece": ("piece", "within", "plan"),
    "within": ("within", "plan"),
    "plan": ("deeds",),
    "deeds": ("deeds", "again"),
    "again": (),
}


def plan_text(plan):
    """Return the text of plan."""
    places, steps, pieces, deeds, within = frozen(plan)
    lines = ["places " + " ".join(places)]
    for name, step in steps:
        lines.append(f"step {name}: {step_text(places, step)}")
    for name, own in pieces:
        lines.append(f"piece {name}: {deeds_text(own)}")
    for name, many in within:
        lines.append(f"within {many} {name}")
    lines.append("plan")
    for deed in deeds:
        lines.append("  " + deeds_text((deed,)))
    return "\n".join(lines + ["again"])


def parted(line):
    """Return the kind of line and what stands behind its first word, None and "" if it is of no kind."""
    if line in ("plan", "again"):
        return line, ""
    if line.startswith("  "):
        return "deeds", line[2:]
    word, _, rest = line.partition(" ")
    return (word, rest) if word in ("places", "step", "piece", "within") else (None, "")


class PlanReader:
    """What has been read of a text, line by line; the line behind may be one of FOLLOWERS[kind]."""

    def __init__(self):
        self.kind = ""
        self.places = ()
        self.steps = {}
        self.pieces = {}
        self.begins = {}
        self.within = {}
        self.deeds = ()

    def is_new_name(self, word):
        """Return whether word is a NAME of no STEP and no piece ahead."""
        return is_name(word) and word not in self.steps and word not in self.pieces

    def read_places(self, rest):
        """Read the NAMES of the places; return whether they are such."""
        self.places = tuple(rest.split(" "))
        return are_names(self.places)

    def read_step(self, rest):
        """Read a STEP; return whether it is one."""
        name, _, told = rest.partition(": ")
        step = step_by(self.places, told)
        if step is None or not self.is_new_name(name):
            return False
        self.steps[name] = step
        return True

    def read_piece(self, rest):
        """Read a piece; return whether it is one."""
        name, _, told = rest.partition(": ")
        deeds = deeds_by(told, self.steps, self.begins)
        if deeds is None or not self.is_new_name(name):
            return False
        self.pieces[name] = deeds
        self.begins[name] = begins_with_move(deeds, self.begins)
        return True

    def read_within(self, rest):
        """Read within how many moves a STEP must come; return whether that is told."""
        told, _, name = rest.partition(" ")
        many = number_by(told)
        if many is None or name not in self.steps or name in self.within:
            return False
        self.within[name] = many
        return True

    def read_deeds(self, rest):
        """Read deeds of the PLAN; return whether they are such."""
        deeds = deeds_by(rest, self.steps, self.begins)
        if deeds is None:
            return False
        self.deeds = self.deeds + deeds
        return True

    def read(self, line):
        """Read the next line; return whether it may stand there."""
        kind, rest = parted(line)
        if kind not in FOLLOWERS[self.kind]:
            return False
        self.kind = kind
        if kind == "places":
            return self.read_places(rest)
        if kind == "step":
            return self.read_step(rest)
        if kind == "piece":
            return self.read_piece(rest)
        if kind == "within":
            return self.read_within(rest)
        return kind != "deeds" or self.read_deeds(rest)

    def plan(self):
        """Return the PLAN of the lines read."""
        within = tuple(sorted([(name, many) for name, many in self.within.items()]))
        return (self.places, tuple(self.steps.items()), tuple(self.pieces.items()), self.deeds, within)


def plan_by(text):
    """Return the PLAN of text."""
    reader = PlanReader()
    lines = text.split("\n")
    for k, line in enumerate(lines):
        # With what has been read well a text can always go on, so the first line that is not decides.
        if not reader.read(line):
            raise BadLine(k + 1)
    if reader.kind != "again":
        raise BadLine(len(lines) + 1)
    return reader.plan()
