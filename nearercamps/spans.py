"""Rounds in which wanted STEPS come within told spans."""

from nearercamps.ways import inner_order


def counts_behind(counts, wants, step):
    """Return the counts of lacks behind an arrow by this STEP, None if one comes to its number."""
    behind = []
    for count, (place, most) in zip(counts, wants):
        if step == place:
            behind.append(0)
        elif count + 1 < most:
            behind.append(count + 1)
        else:
            return None
    return tuple(behind)


def short_arrows(stands, pair, wants):
    """Return the list of the arrows (step, (stand, counts)) from a pair by which no count comes to its number."""
    stand, counts = pair
    found = []
    for step, end in stands[stand][1]:
        behind = counts_behind(counts, wants, step)
        if behind is not None and end == 0:
            behind = (0,) * len(wants)
        if behind is not None:
            found.append((step, (end, behind)))
    return found


def met_pairs(stands, wants):
    """Return a dict that has for each pair (stand, counts) that is met its short_arrows."""
    order = [(0, (0,) * len(wants))]
    met = {order[0]: True}
    found = {}
    at = 0
    while at < len(order):
        arrows = short_arrows(stands, order[at], wants)
        found[order[at]] = arrows
        for _, end in arrows:
            if end not in met:
                met[end] = True
                order.append(end)
        at += 1
    return found


def ending_pairs(stands, wants):
    """Return a dict of met pairs from which rounds can be ended and their arrows that lead to such pairs."""
    found = met_pairs(stands, wants)
    begin = (0, (0,) * len(wants))
    pairs_at = [[] for _ in stands]
    for pair in found:
        pairs_at[pair[0]].append(pair)
    ending = {begin: []}
    for stand in list(reversed(inner_order(stands))) + [0]:
        for pair in pairs_at[stand]:
            arrows = [(step, end) for step, end in found[pair] if end in ending]
            if arrows != []:
                ending[pair] = arrows
    return ending
