"""Engines of one to four cylinders: their pull, their marks, and whether they start by themselves."""

from steamlinks.angles import check_angle, check_like, is_form, is_turn
from steamlinks.basics import is_whole, reduced, scaled_vector, turn_factor
from steamlinks.circle import lies_between, place_sign, places_in_order
from steamlinks.errors import InvalidEngine, InvalidSense
from steamlinks.places import turn_back, turned_angle
from steamlinks.polynomials import check_ratio
from steamlinks.trees import arcs_from, samples_round, side_cuts
from steamlinks.valves import ENDS, exhaust_side, is_valve, mirrored_valve, state_on, steam_side

MOST_CYLINDERS = 4


def is_cylinder(value, form):
    if not isinstance(value, tuple) or len(value) != 3:
        return False
    turn, weight, valve = value
    return is_turn(turn) and is_whole(weight) and weight > 0 and is_valve(valve) and valve[0] == form


def is_engine(value):
    if not isinstance(value, tuple) or len(value) != 2 or not is_form(value[0]):
        return False
    form, cylinders = value
    if not isinstance(cylinders, tuple) or not 1 <= len(cylinders) <= MOST_CYLINDERS:
        return False
    return all([is_cylinder(cylinder, form) for cylinder in cylinders])


def check_engine(engine):
    if not is_engine(engine):
        raise InvalidEngine(engine)


def is_sense(value):
    return is_whole(value) and value in (1, -1)


def check_sense(sense):
    if not is_sense(sense):
        raise InvalidSense(sense)


def states_on(engine, angle):
    states = []
    for turn, _, valve in engine[1]:
        own = turned_angle(angle, turn)
        states.append(tuple([state_on(valve, end, own) for end in ENDS]))
    return tuple(states)


def push_of(states):
    """1 if a cylinder with these states pushes forward, -1 if it pushes back, otherwise 0."""
    head, crank = states
    return (1 if head == "steam" else 0) - (1 if crank == "steam" else 0)


def pull_parts(engine, angle):
    """T as (n, k, m), the vector (n / m, k / m)."""
    form, cylinders = engine
    first, second, parts = 0, 0, 1
    for cylinder, states in zip(cylinders, states_on(engine, angle)):
        (p, q), weight, _ = cylinder
        push = push_of(states) * weight * parts
        factor = turn_factor(form, (p, q))
        first = first * factor + push * 2 * form * p * q
        second = second * factor + push * (p * p - form * q * q)
        parts *= factor
    return reduced((first, second, parts))


def pull_order(engine, angle, ratio):
    """The sign of the pull at an angle less a ratio."""
    first, second, parts = pull_parts(engine, angle)
    return place_sign(angle, scaled_vector((first, second), ratio[1]), ratio[0] * parts)


def marks_of_sides(engine):
    """Angles that tell all marks, in no order, some of them perhaps more than once."""
    form, cylinders = engine
    marks = []
    for turn, _, valve in cylinders:
        back = turn_back(turn)
        for end in ENDS:
            for vector, level in (steam_side(valve, end), exhaust_side(valve, end)):
                marks.extend([turned_angle(cut, back) for cut in side_cuts(form, vector, level)])
    return marks


def marks_round(engine):
    return places_in_order(marks_of_sides(engine))


def cuts_of_pull(engine, ratio):
    """The marks, and all places between them at which the pull is the ratio but not all along, in the turn order."""
    form = engine[0]
    marks = marks_round(engine)
    cuts = list(marks)
    samples = samples_round(form, marks)
    for index in range(max(len(marks), 1)):
        # The pull behind a mark; if there are no marks, that all round.
        first, second, parts = pull_parts(engine, samples[2 * index + 1] if marks else samples[0])
        for cut in side_cuts(form, scaled_vector((first, second), ratio[1]), ratio[0] * parts):
            if not marks or lies_between(cut, marks[index], marks[(index + 1) % len(marks)]):
                cuts.append(cut)
    return places_in_order(cuts)


def angle_not_above(engine, sense, ratio):
    """An angle at which the pull times the sense is not above the ratio, None if there is none."""
    level = (sense * ratio[0], ratio[1])
    # Most engines that hang do so at a mark, and the marks need no search for places between them.
    for mark in marks_of_sides(engine):
        if sense * pull_order(engine, mark, level) <= 0:
            return mark
    for sample in samples_round(engine[0], cuts_of_pull(engine, level)):
        if sense * pull_order(engine, sample, level) <= 0:
            return sample
    return None


def states_at(engine, angle):
    check_engine(engine)
    check_angle(angle)
    check_like(engine, angle)
    return states_on(engine, angle)


def pull_vector(engine, angle):
    check_engine(engine)
    check_angle(angle)
    check_like(engine, angle)
    return pull_parts(engine, angle)


def pull_sign(engine, angle):
    check_engine(engine)
    check_angle(angle)
    check_like(engine, angle)
    return pull_order(engine, angle, (0, 1))


def compare_pull(engine, angle, ratio):
    check_engine(engine)
    check_angle(angle)
    check_ratio(ratio)
    check_like(engine, angle)
    return pull_order(engine, angle, ratio)


def marks_of(engine):
    check_engine(engine)
    return tuple(marks_round(engine))


def starting_arcs(engine, sense):
    check_engine(engine)
    check_sense(sense)
    cuts = cuts_of_pull(engine, (0, 1))
    truths = [sense * pull_order(engine, sample, (0, 1)) > 0 for sample in samples_round(engine[0], cuts)]
    return arcs_from(cuts, truths)


def starts_everywhere(engine, sense):
    check_engine(engine)
    check_sense(sense)
    return angle_not_above(engine, sense, (0, 1)) is None


def dead_angle(engine, sense):
    check_engine(engine)
    check_sense(sense)
    return angle_not_above(engine, sense, (0, 1))


def is_above(engine, sense, ratio):
    check_engine(engine)
    check_sense(sense)
    check_ratio(ratio)
    return angle_not_above(engine, sense, ratio) is None


def weak_angle(engine, sense, ratio):
    check_engine(engine)
    check_sense(sense)
    check_ratio(ratio)
    return angle_not_above(engine, sense, ratio)


def mirrored_engine(engine):
    check_engine(engine)
    form, cylinders = engine
    return (form, tuple([(turn_back(turn), weight, mirrored_valve(valve)) for turn, weight, valve in cylinders]))
