"""Ways along the arrows of the stands of a MACHINE."""


def inner_order(stands):
    """Return the list of the stands but 0, each behind all others from which arrows lead to it.

    Stands on rings that leave out 0, and those behind them, are not in it.
    """
    ahead = [0 for _ in stands]
    for _, arrows in stands[1:]:
        for _, end in arrows:
            ahead[end] += 1
    order = [stand for stand in range(1, len(stands)) if ahead[stand] == 0]
    at = 0
    while at < len(order):
        arrows = stands[order[at]][1]
        for _, end in arrows:
            ahead[end] -= 1
            if end != 0 and ahead[end] == 0:
                order.append(end)
        at += 1
    return order


def end_of(stands, stand, row):
    """Return the stand to which row comes from stand."""
    for arrow in row:
        stand = stands[stand][1][arrow][1]
    return stand


def steps_along(stands, stand, row):
    """Return the list of the places of the STEPS of row from stand."""
    taken = []
    for arrow in row:
        step, stand = stands[stand][1][arrow]
        taken.append(step)
    return taken


def longer_rows(stands, found):
    """Return the pairs (row, end) of found made longer by each arrow of their ends, in order."""
    return [(row + (k,), end) for row, here in found for k, (_, end) in enumerate(stands[here][1])]


def met_order(begin, arrows):
    """Return the list of what is met from begin on; arrows has, at each that is met, its pairs (step, end)."""
    order = [begin]
    met = {begin: True}
    at = 0
    while at < len(order):
        going = arrows[order[at]]
        for _, end in going:
            if end not in met:
                met[end] = True
                order.append(end)
        at += 1
    return order
