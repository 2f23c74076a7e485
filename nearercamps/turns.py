"""Round rows, and the camps that they keep, whoever owns the choices."""

from nearercamps.machines import is_row, row_end
from nearercamps.splits import led_by, led_maps, lie_within
from nearercamps.ways import steps_along


def is_round_row(machine, thing):
    """Return whether thing is a row, not (), from the beginning to the beginning."""
    return is_row(machine, 0, thing) and thing != () and row_end(machine, 0, thing) == 0


def led_by_row(machine, row, camps):
    """Return the CAMPS to which a row from the beginning leads camps, None if they die."""
    steps, stands = machine
    for step in steps_along(stands, 0, row):
        camps = led_by(steps[step][0], camps)
        if camps is None:
            return None
    return camps


def is_kept_round(machine, row, camps):
    """Return whether row, a tuple of numbers, is a round row that keeps camps."""
    if not is_round_row(machine, row):
        return False
    going = led_by_row(machine, row, camps)
    return going is not None and lie_within(camps, going)


def keeping_row(machine, maps, camps):
    """Return a shortest round row that keeps camps, None if there is none; maps are the led_maps of the STEPS."""
    _, stands = machine
    order = [(0, camps)]
    rows = {order[0]: ()}
    at = 0
    while at < len(order):
        stand, here = order[at]
        for arrow, (step, end) in enumerate(stands[stand][1]):
            going = maps[step][here]
            if going is not None and end == 0 and lie_within(camps, going):
                return rows[(stand, here)] + (arrow,)
            if going is not None and (end, going) not in rows:
                rows[(end, going)] = rows[(stand, here)] + (arrow,)
                order.append((end, going))
        at += 1
    return None


def kept_camps(machine, every):
    """Return a dict of those of every CAMPS that some round row keeps, each with a shortest such row."""
    maps = led_maps(machine[0])
    rows = {camps: keeping_row(machine, maps, camps) for camps in every}
    return {camps: rows[camps] for camps in every if rows[camps] is not None}
