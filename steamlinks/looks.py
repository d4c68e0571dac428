"""Wrong settings of valves, and the looks at the states of ends that tell them apart."""

from itertools import combinations

from steamlinks.alike import valves_are_alike
from steamlinks.angles import check_like, is_angle, is_turn
from steamlinks.basics import is_ratio
from steamlinks.circle import places_in_order
from steamlinks.errors import InvalidFindings, InvalidLook, InvalidLooks, InvalidWrong, InvalidWrongs
from steamlinks.settings import is_throw, moved_valve, opposed_valve, thrown_valve
from steamlinks.trees import samples_round, side_cuts
from steamlinks.valves import ENDS, STATES, check_valve, exhaust_side, is_one_of, state_on, steam_side, turned_valve

MOST_WRONGS = 6
MOST_LOOKS = 8


def is_wrong(value):
    if not isinstance(value, tuple) or not 1 <= len(value) <= 2 or not isinstance(value[0], str):
        return False
    word = value[0]
    if len(value) == 1:
        return word in ("right", "opposite")
    amount = value[1]
    if word == "moved":
        return is_ratio(amount)
    if word == "thrown":
        return is_throw(amount)
    return word == "slipped" and is_turn(amount)


def is_look(value, form):
    if not isinstance(value, tuple) or len(value) != 2:
        return False
    angle, end = value
    return is_angle(angle) and angle[0] == form and is_one_of(end, ENDS)


def is_finding(value, form):
    if not isinstance(value, tuple) or len(value) != 2:
        return False
    look, state = value
    return is_look(look, form) and is_one_of(state, STATES)


def check_wrong(wrong):
    if not is_wrong(wrong):
        raise InvalidWrong(wrong)


def check_wrongs(wrongs):
    if not isinstance(wrongs, tuple) or len(wrongs) == 0:
        raise InvalidWrongs(None)
    for index in range(len(wrongs)):
        if index == MOST_WRONGS or not is_wrong(wrongs[index]):
            raise InvalidWrongs(index)


def check_look(look, form):
    if not is_look(look, form):
        raise InvalidLook(look)


def check_looks(looks, form):
    if not isinstance(looks, tuple):
        raise InvalidLooks(None)
    for index in range(len(looks)):
        if index == MOST_LOOKS or not is_look(looks[index], form):
            raise InvalidLooks(index)


def check_findings(findings, form):
    if not isinstance(findings, tuple):
        raise InvalidFindings(None)
    for index in range(len(findings)):
        if index == MOST_LOOKS or not is_finding(findings[index], form):
            raise InvalidFindings(index)


def valve_with(valve, wrong):
    word = wrong[0]
    if word == "right":
        return valve
    if word == "opposite":
        return opposed_valve(valve)
    if word == "moved":
        return moved_valve(valve, wrong[1])
    if word == "thrown":
        return thrown_valve(valve, wrong[1])
    return turned_valve(valve, wrong[1])


def valves_with(valve, wrongs):
    return [valve_with(valve, wrong) for wrong in wrongs]


def seen_on(valve, look):
    angle, end = look
    return state_on(valve, end, angle)


def do_agree(valve, findings):
    return all([seen_on(valve, look) == state for look, state in findings])


def parted_by(valves, look):
    """Which pairs of valves a look parts, as a number with one bit for each pair."""
    states = [seen_on(valve, look) for valve in valves]
    mask = 0
    for first, second in combinations(states, 2):
        mask = 2 * mask + (1 if first != second else 0)
    return mask


def looks_of_all_kinds(valves):
    """A look of each kind: at the marks of all valves, and between neighbouring marks."""
    form = valves[0][0]
    looks = []
    for end in ENDS:
        marks = []
        for valve in valves:
            for vector, level in (steam_side(valve, end), exhaust_side(valve, end)):
                marks.extend(side_cuts(form, vector, level))
        looks.extend([(angle, end) for angle in samples_round(form, places_in_order(marks))])
    return looks


def all_bits(masks):
    bits = 0
    for mask in masks:
        bits |= mask
    return bits


def widest(rows):
    """Those of the pairs (MASK, LOOK) whose bits no other one has beside more, one for each mask."""
    kept = []
    for mask, look in rows:
        if not any([mask | other == other for other, _ in kept]):
            kept = [(other, kept_look) for other, kept_look in kept if mask | other != mask] + [(mask, look)]
    return kept


def looks_within(rows, missing, most):
    """At most so many of the looks that together have all missing bits, None if there are none."""
    if missing == 0:
        return ()
    if most == 0:
        return None
    lowest = missing & -missing
    for mask, look in rows:
        if mask & lowest:
            others = looks_within(rows, missing - (missing & mask), most - 1)
            if others is not None:
                return (look,) + others
    return None


def some_fewest_looks(valves):
    """As few looks as possible that part each two of the valves that some look parts."""
    rows = widest([(parted_by(valves, look), look) for look in looks_of_all_kinds(valves)])
    missing = all_bits([mask for mask, _ in rows])
    most = 0
    found = looks_within(rows, missing, most)
    while found is None:
        most += 1
        found = looks_within(rows, missing, most)
    return found


def are_parted(valves, looks):
    """Whether the looks part each two of the valves that some look parts."""
    parted = all_bits([parted_by(valves, look) for look in looks])
    unlike = 0
    for first, second in combinations(valves, 2):
        unlike = 2 * unlike + (0 if valves_are_alike(first, second) else 1)
    return parted == unlike


def least_covering(masks):
    """The least of the shortest ascending tuples of indexes of masks that together have the bits of all."""
    for many in range(len(masks)):
        for chosen in combinations(range(len(masks)), many):
            if all_bits([masks[index] for index in chosen]) == all_bits(masks):
                return chosen
    return tuple(range(len(masks)))


def wrong_valve(valve, wrong):
    check_valve(valve)
    check_wrong(wrong)
    return valve_with(valve, wrong)


def seen(valve, look):
    check_valve(valve)
    check_look(look, valve[0])
    return seen_on(valve, look)


def is_parting(valve, other, look):
    check_valve(valve)
    check_valve(other)
    check_look(look, valve[0])
    check_like(valve, other)
    return seen_on(valve, look) != seen_on(other, look)


def left_by(valve, wrongs, findings):
    check_valve(valve)
    check_wrongs(wrongs)
    check_findings(findings, valve[0])
    return tuple([wrong for wrong in wrongs if do_agree(valve_with(valve, wrong), findings)])


def blind_pairs(valve, wrongs):
    check_valve(valve)
    check_wrongs(wrongs)
    valves = valves_with(valve, wrongs)
    pairs = []
    for first, second in combinations(range(len(valves)), 2):
        if valves_are_alike(valves[first], valves[second]):
            pairs.append((first, second))
    return tuple(pairs)


def fewest_looks(valve, wrongs, looks):
    check_valve(valve)
    check_wrongs(wrongs)
    check_looks(looks, valve[0])
    valves = valves_with(valve, wrongs)
    masks = [parted_by(valves, look) for look in looks]
    return least_covering(masks)


def any_fewest_looks(valve, wrongs):
    check_valve(valve)
    check_wrongs(wrongs)
    return some_fewest_looks(valves_with(valve, wrongs))
