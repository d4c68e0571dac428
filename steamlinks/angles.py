"""Forms, vectors, ways, turns and angles: what they are, and angles made of levels and of ways."""

from steamlinks.basics import are_whole, common_factor, is_whole, norm, opposite_vector, reduced
from steamlinks.errors import InvalidAngle, InvalidForm, InvalidNumber, InvalidTurn, InvalidVector, InvalidWay
from steamlinks.errors import NoAngle, Unlike


def is_form(value):
    return is_whole(value) and 1 <= value <= 3


def is_vector(value):
    return are_whole(value, 2)


def is_way(value):
    return are_whole(value, 2) and common_factor(value) == 1


def is_turn(value):
    if not are_whole(value, 2) or common_factor(value) != 1:
        return False
    return value[0] > 0 or value == (0, 1)


def is_angle(value):
    if not isinstance(value, tuple) or len(value) != 4 or not is_form(value[0]):
        return False
    numbers = value[1:]
    if not are_whole(numbers, 3) or common_factor(numbers) != 1:
        return False
    level = value[3]
    return level * level < norm(value[0], numbers[:2])


def check_form(form):
    if not is_form(form):
        raise InvalidForm(form)


def check_vector(vector):
    if not is_vector(vector):
        raise InvalidVector(vector)


def check_number(number):
    if not is_whole(number):
        raise InvalidNumber(number)


def check_way(way):
    if not is_way(way):
        raise InvalidWay(way)


def check_turn(turn):
    if not is_turn(turn):
        raise InvalidTurn(turn)


def check_angle(angle):
    if not is_angle(angle):
        raise InvalidAngle(angle)


def check_like(first, other):
    """Both are angles, regions, valves or other things that begin with their form."""
    if first[0] != other[0]:
        raise Unlike(other)


def rising_angle(form, vector, level):
    """The angle at which <u, vector> rises through the level, None if there is none."""
    if level * level >= norm(form, vector):
        return None
    return (form,) + reduced((vector[0], vector[1], level))


def lowering_angle(form, vector, level):
    """The angle at which <u, vector> falls through the level, None if there is none."""
    return rising_angle(form, opposite_vector(vector), -level)


def angle_on_way(form, way):
    return (form,) + reduced((-form * way[1], way[0], 0))


def check_passing(form, vector, level):
    check_form(form)
    check_vector(vector)
    check_number(level)
    if rising_angle(form, vector, level) is None:
        raise NoAngle()


def angle_of(form, vector, level):
    check_passing(form, vector, level)
    return rising_angle(form, vector, level)


def falling_angle(form, vector, level):
    check_passing(form, vector, level)
    return lowering_angle(form, vector, level)


def way_angle(form, way):
    check_form(form)
    check_way(way)
    return angle_on_way(form, way)
