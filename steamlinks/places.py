"""Places of the turn: sides of vectors, the turn order, what lies between, turns."""

from steamlinks.angles import check_angle, check_form, check_like, check_number, check_turn, check_vector
from steamlinks.basics import inner, reduced, turn_factor, turned_vector
from steamlinks.circle import comes_before, exact_way, lies_between, place_sign, share_place, some_way_between


def check_two_angles(angle, other):
    check_angle(angle)
    check_angle(other)
    check_like(angle, other)


def as_way(angle):
    check_angle(angle)
    return exact_way(angle)


def side_at(angle, vector, level):
    check_angle(angle)
    check_vector(vector)
    check_number(level)
    return place_sign(angle, vector, level)


def is_same_place(angle, other):
    check_two_angles(angle, other)
    return share_place(angle, other)


def is_before(angle, other):
    check_two_angles(angle, other)
    return comes_before(angle, other)


def is_between(angle, low, high):
    check_angle(angle)
    check_angle(low)
    check_angle(high)
    check_like(angle, low)
    check_like(angle, high)
    return lies_between(angle, low, high)


def way_between(low, high):
    check_two_angles(low, high)
    return some_way_between(low, high)


def opposite_angle(angle):
    check_angle(angle)
    form, a, b, level = angle
    return (form, -a, -b, level)


def mirrored_angle(angle):
    check_angle(angle)
    form, a, b, level = angle
    return (form, -a, b, -level)


def turned_angle(angle, turn):
    check_angle(angle)
    check_turn(turn)
    form, a, b, level = angle
    first, second = turned_vector(form, (a, b), turn)
    return (form,) + reduced((first, second, level * turn_factor(form, turn)))


def turned(form, vector, turn):
    check_form(form)
    check_vector(vector)
    check_turn(turn)
    return turned_vector(form, vector, turn)


def turn_sum(form, turn, other):
    check_form(form)
    check_turn(turn)
    check_turn(other)
    p, q = reduced((inner(form, turn, (other[0], -other[1])), turn[0] * other[1] + turn[1] * other[0]))
    if p < 0 or (p == 0 and q < 0):
        return (-p, -q)
    return (p, q)


def turn_back(turn):
    check_turn(turn)
    p, q = turn
    if p == 0:
        return turn
    return (p, -q)
