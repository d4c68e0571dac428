"""The checker of claims and their papers.

Each check is given the parts of a claim behind its word. What is no claim makes one of the functions that it calls
raise, which settles the claim, too.
"""

from steamlinks.alike import are_alike, are_always_alike
from steamlinks.angles import check_form
from steamlinks.basics import are_whole, is_whole
from steamlinks.engines import check_sense, compare_pull, is_above, pull_sign, starts_everywhere
from steamlinks.errors import SteamError
from steamlinks.fits import check_sightings, fits, follows, sighting_rows
from steamlinks.links import is_link, valve_at
from steamlinks.looks import any_fewest_looks, are_parted, is_look, is_parting, valves_with, wrong_valve
from steamlinks.notches import are_same_lots, lot_holds, lot_rest, state_notches
from steamlinks.pistons import compare_event
from steamlinks.polynomials import check_ratio, count_roots
from steamlinks.ports import compare_greatest
from steamlinks.regions import holds, is_never, lies_within
from steamlinks.riders import plate_kinds
from steamlinks.rows import sum_of_rows
from steamlinks.valves import ENDS, blows, check_state, state_at
from steamlinks.zones import check_bounds, check_geared, engine_at, is_within_zone, starts_at


def is_pair(value):
    return isinstance(value, tuple) and len(value) == 2


def is_nothing(value):
    return isinstance(value, tuple) and len(value) == 0


def are_words(value):
    return isinstance(value, tuple) and all([isinstance(word, str) for word in value])


def fails(told):
    region, angle = told
    return not holds(region, angle)


def is_in_place(told):
    region, angle = told
    return holds(region, angle)


def is_empty(told):
    return is_never(told[0])


def is_within(told):
    region, other = told
    return lies_within(region, other)


def is_in_state(told):
    valve, end, angle, state = told
    check_state(state)
    return state_at(valve, end, angle) == state


def is_tight(told):
    valve, end = told
    return not blows(valve, end)


def has_share(told):
    valve, rod, end, event, share, sign = told
    return is_whole(sign) and compare_event(valve, rod, end, event, share) == sign


def does_open(told):
    valve, end, ratio, sign = told
    return is_whole(sign) and compare_greatest(valve, end, ratio) == sign


def are_alike_valves(told):
    valve, other = told
    return are_alike(valve, other)


def are_alike_links(told):
    link, other = told
    return are_always_alike(link, other)


def has_roots(told):
    polynomial, count = told
    return is_whole(count) and count_roots(polynomial, None, None) == count


def has_notches(told):
    link, angle, end, state, lot = told
    return are_same_lots(state_notches(link, angle, end, state), lot)


def is_always_so(told):
    link, angle, end, state = told
    return lot_rest(state_notches(link, angle, end, state)) == ()


def has_kinds(told):
    valve, rider, end, kinds = told
    return are_words(kinds) and plate_kinds(valve, rider, end) == kinds


def does_start(told):
    engine, sense = told
    return starts_everywhere(engine, sense)


def is_pull_above(told):
    engine, sense, ratio = told
    return is_above(engine, sense, ratio)


def is_zone(told):
    geared, sense, low, high = told
    check_geared(geared)
    check_sense(sense)
    check_bounds(low, high)
    return is_within_zone(geared, sense, low, high)


def is_no_zone(told):
    return not is_zone(told)


def does_run(told):
    geared, sense, notch = told
    return starts_at(geared, sense, notch)


def does_fit(told):
    link, sightings = told
    return fits(link, sightings)


def does_miss(told):
    return not does_fit(told)


def does_follow(told):
    form, sightings, sighting = told
    return follows(form, sightings, sighting)


def is_blind(told):
    valve, wrong, other = told
    return are_alike(wrong_valve(valve, wrong), wrong_valve(valve, other))


def is_shown_sometimes(told, paper):
    return holds(told[0], paper)


def is_shown_not_within(told, paper):
    region, other = told
    return holds(region, paper) and not holds(other, paper)


def is_shown_blowing(told, paper):
    valve, end = told
    return state_at(valve, end, paper) == "both"


def are_parted_at(valve, other, angle):
    return any([state_at(valve, end, angle) != state_at(other, end, angle) for end in ENDS])


def are_shown_unlike(told, paper):
    valve, other = told
    return are_parted_at(valve, other, paper)


def are_links_shown_unlike(told, paper):
    link, other = told
    if not is_pair(paper):
        return False
    notch, angle = paper
    return are_parted_at(valve_at(link, notch), valve_at(other, notch), angle)


def is_shown_not_always(told, paper):
    link, angle, end, state = told
    return lot_holds(lot_rest(state_notches(link, angle, end, state)), paper)


def is_hanging_at(engine, sense, angle):
    check_sense(sense)
    return pull_sign(engine, angle) * sense <= 0


def is_shown_hanging(told, paper):
    engine, sense = told
    return is_hanging_at(engine, sense, paper)


def is_shown_not_above(told, paper):
    engine, sense, ratio = told
    check_sense(sense)
    check_ratio(ratio)
    return compare_pull(engine, paper, (ratio[0] * sense, ratio[1])) * sense <= 0


def is_shown_stalling(told, paper):
    geared, sense, notch = told
    return is_hanging_at(engine_at(geared, notch), sense, paper)


def is_link_of(value, form):
    check_form(form)
    return is_link(value) and value[0] == form


def is_shown_fitting(told, paper):
    form, sightings = told
    return is_link_of(paper, form) and fits(paper, sightings)


def is_bar(value, many):
    """Whether the value is a pair of rows of so many whole numbers, those of the second one from 0 on and not all 0."""
    if not is_pair(value) or not are_whole(value[0], many) or not are_whole(value[1], many):
        return False
    return min(value[1]) >= 0 and max(value[1]) > 0


def is_shown_barred(told, paper):
    form, sightings = told
    check_sightings(sightings)
    if not is_bar(paper, len(sightings)):
        return False
    pairs = [sighting_rows(form, sighting) for sighting in sightings]
    rows = [even for even, _ in pairs] + [strict for _, strict in pairs]
    return all([number == 0 for number in sum_of_rows(rows, paper[0] + paper[1])])


def is_shown_free(told, paper):
    form, sightings, sighting = told
    return is_link_of(paper, form) and fits(paper, sightings) and not fits(paper, (sighting,))


def are_shown_parted(told, paper):
    valve, wrong, other = told
    return is_parting(wrong_valve(valve, wrong), wrong_valve(valve, other), paper)


def are_shown_fewest(told, paper):
    valve, wrongs, number = told
    fewest = len(any_fewest_looks(valve, wrongs))
    if not is_whole(number) or number != fewest or not isinstance(paper, tuple) or len(paper) != fewest:
        return False
    return all([is_look(look, valve[0]) for look in paper]) and are_parted(valves_with(valve, wrongs), paper)


# How many parts each claim has behind its word.
PARTS = {
    "holds": 2, "fails": 2, "never": 1, "sometimes": 1, "within": 2, "not within": 2,
    "state": 4, "blows": 2, "tight": 2, "share": 6, "opens": 4,
    "alike": 2, "unlike": 2, "alike links": 2, "unlike links": 2, "roots": 2,
    "notches": 5, "always": 4, "not always": 4, "kinds": 4,
    "starts": 2, "hangs": 2, "above": 3, "not above": 3, "zone": 4, "no zone": 4, "runs": 3, "stalls": 3,
    "fits": 2, "misses": 2, "fitting": 2, "barred": 2, "follows": 3, "free": 3,
    "blind": 3, "parted": 3, "looks": 3,
}
# The checks of the claims whose paper is ().
BARE = {
    "holds": is_in_place,
    "fails": fails,
    "never": is_empty,
    "within": is_within,
    "state": is_in_state,
    "tight": is_tight,
    "share": has_share,
    "opens": does_open,
    "alike": are_alike_valves,
    "alike links": are_alike_links,
    "roots": has_roots,
    "notches": has_notches,
    "always": is_always_so,
    "kinds": has_kinds,
    "starts": does_start,
    "above": is_pull_above,
    "zone": is_zone,
    "no zone": is_no_zone,
    "runs": does_run,
    "fits": does_fit,
    "misses": does_miss,
    "follows": does_follow,
    "blind": is_blind,
}
# The checks of the claims with a paper.
SHOWN = {
    "sometimes": is_shown_sometimes,
    "not within": is_shown_not_within,
    "blows": is_shown_blowing,
    "unlike": are_shown_unlike,
    "unlike links": are_links_shown_unlike,
    "not always": is_shown_not_always,
    "hangs": is_shown_hanging,
    "not above": is_shown_not_above,
    "stalls": is_shown_stalling,
    "fitting": is_shown_fitting,
    "barred": is_shown_barred,
    "free": is_shown_free,
    "parted": are_shown_parted,
    "looks": are_shown_fewest,
}


def is_shown(word, told, paper):
    """Whether the paper shows the claim; a SteamError if it is no claim, or the paper none of its papers."""
    if word in BARE:
        check = BARE[word]
        return is_nothing(paper) and check(told)
    check_with = SHOWN[word]
    return check_with(told, paper)


def accepts(claim, paper):
    if not isinstance(claim, tuple) or len(claim) == 0 or not isinstance(claim[0], str):
        return False
    word, told = claim[0], claim[1:]
    if PARTS.get(word) != len(told):
        return False
    try:
        return is_shown(word, told, paper)
    except SteamError:
        return False
