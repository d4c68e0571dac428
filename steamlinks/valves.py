"""Valves: the states of their ends, their events and leads, and reversed, exchanged and turned valves."""

from steamlinks.angles import check_angle, check_form, check_like, check_turn, check_vector
from steamlinks.angles import is_form, is_vector, lowering_angle, rising_angle
from steamlinks.basics import are_whole, common_factor, is_whole, norm, opposite_vector, reduced
from steamlinks.basics import turn_factor, turned_vector
from steamlinks.circle import in_turn_order, place_sign
from steamlinks.errors import InvalidEnd, InvalidLaps, InvalidPort, InvalidValve, InvalidWord
from steamlinks.trees import both_trees, other_tree

ENDS = ("head", "crank")
STATES = ("steam", "exhaust", "both", "closed")
EVENTS = ("admission", "compression", "cutoff", "release")


def is_laps(value):
    return are_whole(value, 4)


def is_port(value):
    return is_whole(value) and value > 0


def is_valve(value):
    if not isinstance(value, tuple) or len(value) != 4:
        return False
    form, vector, laps, port = value
    if not (is_form(form) and is_vector(vector) and is_laps(laps) and is_port(port)):
        return False
    return common_factor(vector + laps + (port,)) == 1


def is_one_of(value, words):
    return isinstance(value, str) and value in words


def check_valve(valve):
    if not is_valve(valve):
        raise InvalidValve(valve)


def check_laps(laps):
    if not is_laps(laps):
        raise InvalidLaps(laps)


def check_port(port):
    if not is_port(port):
        raise InvalidPort(port)


def check_end(end):
    if not is_one_of(end, ENDS):
        raise InvalidEnd(end)


def check_state(state):
    if not is_one_of(state, STATES):
        raise InvalidWord(state)


def check_event(event):
    if not is_one_of(event, EVENTS):
        raise InvalidWord(event)


def valve_made(form, vector, laps, port):
    numbers = reduced(vector + laps + (port,))
    return (form, numbers[:2], numbers[2:6], numbers[6])


def steam_side(valve, end):
    """The vector and the level of the side of just the places at which the end takes steam."""
    vector, laps = valve[1:3]
    if end == "head":
        return (vector, laps[0])
    return (opposite_vector(vector), laps[2])


def exhaust_side(valve, end):
    """The vector and the level of the side of just the places at which the end exhausts."""
    vector, laps = valve[1:3]
    if end == "head":
        return (opposite_vector(vector), laps[1])
    return (vector, laps[3])


def state_named(takes_steam, exhausts):
    if takes_steam and exhausts:
        return "both"
    if takes_steam:
        return "steam"
    if exhausts:
        return "exhaust"
    return "closed"


def is_steam_event(event):
    return event in ("admission", "cutoff")


def some_event_angle(valve, end, event):
    """The angle of an event, None if the valve has none."""
    vector, level = steam_side(valve, end) if is_steam_event(event) else exhaust_side(valve, end)
    if event in ("admission", "release"):
        return rising_angle(valve[0], vector, level)
    return lowering_angle(valve[0], vector, level)


def state_on(valve, end, angle):
    vector, level = steam_side(valve, end)
    takes_steam = place_sign(angle, vector, level) > 0
    vector, level = exhaust_side(valve, end)
    return state_named(takes_steam, place_sign(angle, vector, level) > 0)


def mirrored_valve(valve):
    """The reversed valve."""
    form, vector, laps, port = valve
    return (form, (vector[0], -vector[1]), laps, port)


def valve_of(form, vector, laps, port):
    check_form(form)
    check_vector(vector)
    check_laps(laps)
    check_port(port)
    return valve_made(form, vector, laps, port)


def state_at(valve, end, angle):
    check_valve(valve)
    check_end(end)
    check_angle(angle)
    check_like(valve, angle)
    return state_on(valve, end, angle)


def state_region(valve, end, state):
    check_valve(valve)
    check_end(end)
    check_state(state)
    steam = ("side",) + steam_side(valve, end)
    exhaust = ("side",) + exhaust_side(valve, end)
    if state in ("exhaust", "closed"):
        steam = other_tree(steam)
    if state in ("steam", "closed"):
        exhaust = other_tree(exhaust)
    return (valve[0], both_trees(steam, exhaust))


def events(valve):
    check_valve(valve)
    found = []
    # Events at one place stay in the order of these loops, that of the texts.
    for end in sorted(ENDS):
        for event in sorted(EVENTS):
            angle = some_event_angle(valve, end, event)
            if angle is not None:
                found.append((end, event, angle))
    return tuple(in_turn_order(found))


def event_angle(valve, end, event):
    check_valve(valve)
    check_end(end)
    check_event(event)
    return some_event_angle(valve, end, event)


def leads(valve):
    check_valve(valve)
    vector, laps = valve[1:3]
    return (vector[0] - laps[0], vector[0] - laps[2])


def is_passed(form, vector, level):
    """Whether <u, vector> is above the level at some place."""
    return level < 0 or level * level < norm(form, vector)


def blows(valve, end):
    check_valve(valve)
    check_end(end)
    form = valve[0]
    vector, lap = steam_side(valve, end)
    other, far_lap = exhaust_side(valve, end)
    return lap < -far_lap and is_passed(form, vector, lap) and is_passed(form, other, far_lap)


def reversed_valve(valve):
    check_valve(valve)
    return mirrored_valve(valve)


def exchanged_valve(valve):
    check_valve(valve)
    form, vector, laps, port = valve
    return (form, vector, laps[2:] + laps[:2], port)


def turned_valve(valve, turn):
    check_valve(valve)
    check_turn(turn)
    form, vector, laps, port = valve
    factor = turn_factor(form, turn)
    longer = tuple([lap * factor for lap in laps])
    return valve_made(form, turned_vector(form, vector, turn), longer, port * factor)
