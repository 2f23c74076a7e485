"""The interface as section 25 lists it: for each file its functions with the names of their arguments."""

LOOKS = """is_lot(thing, n), is_looks(thing, n), all_lots(n), seen_from(looks, lot), lookers_at(looks, lot),
lookers_within(looks, lot), stand_still(n), behind_looks(looks, others), many_looks(looks, many),
is_wider(looks, others), is_closed(looks, lot), least_closed(looks), period_of(looks, lot),
comes_together_alone(looks), long_sight(looks, many)"""

STEPS = """is_step(thing, n), is_state(thing, n), is_table(thing, n), free_step(looks), even_step(looks),
moved(step, state), moved_by(step, shares, state), spread_of(state), move_ranges(step, state, d),
is_mean(step, state, other, d), shares_for(step, state, other, d), table_of(step), step_of(table), row_step(steps),
least_share(step)"""

MACHINES = """is_machine(thing, n), places_of(machine), one_round(steps), one_choice(owner, steps),
choices(machine, owner), is_row(machine, stand, thing), row_end(machine, stand, row), rows_of(machine, stand, many),
rounds(machine), round_lengths(machine), go_alike(machine, other), merged(machine), renamed(machine, order),
one_after_other(machine, other), within_rounds(machine, wants)"""

CAMPS = """is_camps(thing, n), all_camps(n), in_camps(lot, one), are_within(camps, other), greatest_camps(some),
led(looks, camps), led_along(machine, stand, row, camps), life_along(machine, stand, row, camps),
left_alive(machine, stand, row), kills_all(machine, stand, row), hangs_on(machine, stand, row, place),
common_places(machine, stand, row), lasting(looks), longest_alone(looks), renamed_camps(camps, order)"""

GAMES = """kill_rank(machine, stand, camps), can_kill(machine, stand, camps), kill_ranks(machine),
are_kill_ranks(machine, thing), keeping_table(machine), is_keeping_table(machine, thing),
best_arrows(machine, stand, camps), game_row(machine, stand, camps, many)"""

TOGETHER = """surely_together(machine), our_paper(machine), is_our_paper(machine, thing), their_paper(machine),
is_their_paper(machine, thing), camp_ring(machine), is_camp_ring(machine, thing), rule_arrow(machine, paper, row),
rule_span(machine, paper)"""

WINDOWS = """living(machine, row), is_mix(machine, row), longest_by(machine, camps), longest_life(machine),
window(machine), slow_row(machine), is_slow_row(machine, thing), life_counts(machine, many),
spread_left(share, moves, times), shortest_mix(machine)"""

OWNERS = """handed_over(machine, stands), is_enough(machine, stands), needed_sets(machine), fewest_choices(machine),
always_needed(machine), never_needed(machine), made_needed(machine, stands), needed_paper(machine, stands),
is_needed_paper(machine, stands, thing), is_struck_enough(machine, strikes), least_strikes(machine)"""

SPARE = """looks_of(machine), further_looks(machine), arrows_of(machine, owner), without_looks(machine, looks),
with_looks(machine, looks), without_arrows(machine, arrows), needless_looks(machine), spare_looks(machine),
needless_arrows(machine), helping_looks(machine), harmful_arrows(machine), fewest_looks(machine, most)"""

RUNS = """row_stands(machine, row), row_moves(machine, row), row_looks(machine, row), run_even(machine, row, state),
run_by(machine, row, state, shares), is_run(machine, row, states, d), ranges_after(machine, row, state, d),
camp_state(n, camps), camps_on_the_way(machine, row, camps), spreads(machine, row, state)"""

STUBBORN = """is_closed_in(machine, lot), closed_in(machine), outside_along(machine, row, lot), holds(machine, lot),
can_hold(machine, lot), hold_moves(machine, lot), outside_ring(machine, lot), is_outside_ring(machine, lot,
thing), hold_plan(machine, lot), slip_plan(machine, lot), is_hold_plan(machine, lot, thing),
is_slip_plan(machine, lot, thing), posted(machine, lot), least_posts(machine)"""

SAY = """hearers_along(machine, row, lot), ever_heard(machine, lot), heard_row(machine, lot), surely_heard(machine,
lot), heard_moves(machine, lot), unheard_ring(machine, lot), is_unheard_ring(machine, lot, thing),
can_be_heard(machine, lot), voice_plan(machine, lot), mute_plan(machine, lot), is_voice_plan(machine, lot,
thing), is_mute_plan(machine, lot, thing), least_voices(machine), silent_places(machine)"""

TOLD = """led_on(looks, pairs), is_kept(machine, camps, row), parted_pairs(machine, stand), meeting_lots(machine),
parting_paper(machine, pair), is_parting_paper(machine, pair, thing), parting_run(machine, pair, paper, many,
d)"""

WITHIN = """is_round_within(machine, named, k, row), harms(machine, named, k), least_harming(machine, named),
within_paper(machine, named, k), is_within_paper(machine, named, k, thing), waited(machine, row, camps),
is_waiting_paper(machine, named, thing), waiting_row(turns, first, many)"""

LATE = """reads_itself(machine), spots(late), late_looks(looks, late, ages), ages_of(looks, late),
late_machine(machine, late), late_harms(machine, late), least_late(machine, place, most), late_paper(machine, late),
is_late_paper(machine, late, thing)"""

SHARES = """standing_space(machine, stand), kept_sums(machine), stays_kept(machine, row), kept_rows(machine, row),
is_kept_rows(machine, row, thing), agreed_sum(machine), is_loop(machine, thing), loop_sum(machine, loop),
two_ends(machine), is_two_ends(machine, thing)"""

PIECES = """is_piece(thing, n), row_piece(steps), choice_piece(looks), piece_looks(piece), plain_looks(piece),
piece_table(piece), table_of_looks(looks), joined_piece(one, other), either_piece(one, other), joined_table(table,
behind), either_table(table, beside), pieces_alike(one, other), called(machine, stand, arrow, piece), around(piece,
looks), surrounding(one, other), is_surrounding(one, other, thing)"""

PLANS = """is_plan(thing), written_out(plan), machine_of(plan), step_names(plan, row), plan_of(machine)"""

PLANLINES = """plan_text(plan), plan_by(text)"""

PAPERS = """is_claim(machine, thing), is_so(machine, claim), paper(machine, claim), is_paper_for(machine, claim, thing),
is_paper_against(machine, claim, thing), verdicts(machine, claims, things), comes_of(machine, claim, claims),
carries_over(machine, claim, other), first_false(machine, claims)"""

DESK = """desk(text), is_request(thing)"""

BOARD = """machine(), look(step, place, lot), share(step, shares), add_step(step), drop_step(step), own(stand, owner),
lead(stand, step, end), cut(stand, arrow), insert(stand, arrow, step), mark(), back(mark), undo(), together(), always(),
changed(mark), looked_at(place), dead_steps()"""

FILES = {"looks": LOOKS, "steps": STEPS, "machines": MACHINES, "camps": CAMPS, "games": GAMES, "together": TOGETHER,
         "windows": WINDOWS, "owners": OWNERS, "spare": SPARE, "runs": RUNS,
         "stubborn": STUBBORN, "say": SAY, "told": TOLD, "within": WITHIN,
         "late": LATE, "shares": SHARES, "pieces": PIECES, "plans": PLANS,
         "planlines": PLANLINES, "papers": PAPERS, "desk": DESK}


def told_in(text):
    """Return the list of pairs (name, names of arguments) that text lists."""
    found = []
    for part in text.replace("\n", " ").split("), "):
        function, names = part.strip().rstrip(")").split("(")
        found.append((function, names.split(", ") if names else []))
    return found


def functions_of(name):
    """Return the list of pairs (name, names of arguments) of a file."""
    return told_in(FILES[name])
