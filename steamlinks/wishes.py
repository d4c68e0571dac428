"""Names and wishes of workshops: what they are, and whether a wish holds. Nothing is checked here."""

from steamlinks.alike import valves_are_alike
from steamlinks.angles import is_angle
from steamlinks.basics import is_ratio
from steamlinks.engines import angle_not_above, is_engine, is_sense
from steamlinks.regions import is_never
from steamlinks.valves import ENDS, STATES, is_one_of, is_valve, leads, state_on, state_region

LETTERS = "abcdefghijklmnopqrstuvwxyz"
LONGEST_NAME = 12


def is_name(value):
    if not isinstance(value, str) or not 1 <= len(value) <= LONGEST_NAME:
        return False
    return all([letter in LETTERS for letter in value])


def is_thing(value):
    return is_valve(value) or is_engine(value)


def is_wish(value):
    """Whether the value is a wish, whatever stands under its names."""
    if not isinstance(value, tuple) or not 3 <= len(value) <= 5:
        return False
    if not isinstance(value[0], str) or not is_name(value[1]):
        return False
    word, told = value[0], value[2:]
    if word == "alike":
        return len(told) == 1 and is_name(told[0])
    if word == "starts":
        return len(told) == 1 and is_sense(told[0])
    if word == "pull above":
        return len(told) == 2 and is_sense(told[0]) and is_ratio(told[1])
    if word == "lead above":
        return len(told) == 2 and is_one_of(told[0], ENDS) and is_ratio(told[1])
    if word == "never":
        return len(told) == 2 and is_one_of(told[0], ENDS) and is_one_of(told[1], STATES)
    if word == "state":
        return len(told) == 3 and is_angle(told[0]) and is_one_of(told[1], ENDS) and is_one_of(told[2], STATES)
    return False


def names_in(wish):
    if wish[0] == "alike":
        return wish[1:]
    return wish[1:2]


def does_engine_hold(engine, wish):
    if not is_engine(engine):
        return False
    ratio = (0, 1) if wish[0] == "starts" else wish[3]
    return angle_not_above(engine, wish[2], ratio) is None


def does_valve_hold(valve, wish):
    if not is_valve(valve):
        return False
    if wish[0] == "never":
        return is_never(state_region(valve, wish[2], wish[3]))
    if wish[0] == "lead above":
        lead = leads(valve)[ENDS.index(wish[2])]
        return lead * wish[3][1] > wish[3][0]
    angle, end, state = wish[2:]
    return angle[0] == valve[0] and state_on(valve, end, angle) == state


def are_alike_things(thing, other):
    return is_valve(thing) and is_valve(other) and thing[0] == other[0] and valves_are_alike(thing, other)


def does_hold(wish, things):
    """Whether a wish holds with the things under their names, all of its own names among them."""
    thing = things[wish[1]]
    if wish[0] == "alike":
        return are_alike_things(thing, things[wish[2]])
    if wish[0] in ("starts", "pull above"):
        return does_engine_hold(thing, wish)
    return does_valve_hold(thing, wish)
