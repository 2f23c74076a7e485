"""The interface as section 25 lists it: for each file its functions with the names of their arguments."""

LOOKS = """is_lot(thing, n), is_looks(thing, n), all_lots(n), seen_from(looks, lot), lookers_at(looks, lot),
lookers_within(looks, lot), stand_still(n), behind_looks(looks, others), many_looks(looks, many),
is_wider(looks, others), is_closed(looks, lot), least_closed(looks), period_of(looks, lot),
comes_together_alone(looks), long_sight(looks, many)"""

STEPS = """is_step(thing, n), is_state(thing, n), is_table(thing, n), free_step(looks), even_step(looks),
moved(step, state), moved_by(step, shares, state), spread_of(state), move_ranges(step, state, d),
is_mean(step, state, other, d), shares_for(step, state, other, d), table_of(step), step_of(table), row_step(steps),
least_share(step)"""

FILES = {"looks": LOOKS, "steps": STEPS}


def functions_of(name):
    """Return the list of pairs (name, names of arguments) of a file."""
    found = []
    for part in FILES[name].replace("\n", " ").split("), "):
        function, names = part.strip().rstrip(")").split("(")
        found.append((function, names.split(", ")))
    return found
