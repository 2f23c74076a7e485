"""MACHINES that several tests use: those of the document, and drawn ones."""

import random

from tests import plain_machines as plain

FIRST, SECOND = (((0,), (0,), (1,)), None), (((1,), (2,), (2,)), None)
WILD = ((FIRST, SECOND), (("any", ((0, 0), (1, 0))),))
TAME = ((FIRST, SECOND), (("ours", ((0, 0), (1, 0))),))
DUO = ((FIRST, SECOND), (("any", ((0, 1), (1, 1))), ("ours", ((0, 0), (1, 0)))))
TURN = ((FIRST, SECOND), (("any", ((0, 1),)), ("any", ((1, 0),))))
TWO = ((FIRST, SECOND), (("any", ((0, 1), (1, 1))), ("any", ((0, 0), (1, 0)))))
LONE = (((((0,),), None),), (("any", ((0, 0),)),))
LONE_OURS = (((((0,),), None), (((0,),), (((1, 1),),))), (("ours", ((0, 0), (1, 0))),))
TOLD = (((((0, 1), (1,)), (((1, 3), (2, 3)), ((1, 1),))), (((1,), (0, 1)), None)),
        (("ours", ((0, 1), (1, 0))), ("any", ((1, 0),))))
SIX = ((tuple((max(0, p - 1),) for p in range(6)), None), (tuple((min(5, p + 1),) for p in range(6)), None))
SIX_TURN = (SIX, (("ours", ((0, 1), (1, 1))), ("any", ((0, 0), (1, 2))), ("any", ((1, 0),))))
NAMED = (WILD, TAME, DUO, TURN, TWO, LONE, LONE_OURS, TOLD)


def drawn_machines(seed, many, most_places=4, most_stands=5, owners=("ours", "any"), more=2, told=None):
    """Return the list of so many drawn MACHINES."""
    rng = random.Random(seed)
    found = []
    for _ in range(many):
        n, stands = rng.randint(1, most_places), rng.randint(1, most_stands)
        found.append(plain.draw_machine(rng, n, stands, rng.randint(1, 3), owners, more, told))
    return found


def drawn_row(rng, machine, stand, many):
    """Return a drawn row of so many arrows from stand."""
    row = []
    for _ in range(many):
        arrows = machine[1][stand][1]
        row.append(rng.randrange(len(arrows)))
        stand = arrows[row[-1]][1]
    return tuple(row)
