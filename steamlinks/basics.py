"""Whole numbers, ratios and vectors, and the signs of sums with roots in them. Nothing is checked here."""

from math import gcd


def is_whole(value):
    # True and False are ints for Python, but they are no whole numbers here.
    return isinstance(value, int) and not isinstance(value, bool)


def are_whole(value, many):
    """Whether the value is a tuple of so many whole numbers."""
    return isinstance(value, tuple) and len(value) == many and all([is_whole(number) for number in value])


def common_factor(numbers):
    factor = 0
    for number in numbers:
        factor = gcd(factor, number)
    return factor


def reduced(numbers):
    """The numbers, not all 0, divided by their greatest common divisor."""
    factor = common_factor(numbers)
    return tuple([number // factor for number in numbers])


def is_ratio(value):
    return are_whole(value, 2) and value[1] > 0 and common_factor(value) == 1


def sign(number):
    if number > 0:
        return 1
    if number < 0:
        return -1
    return 0


def sign_with_root(plain, rooted, square):
    """The sign of plain + rooted * R, R being the root of a square above 0."""
    first, second = sign(plain), sign(rooted)
    if first == second or second == 0:
        return first
    if first == 0:
        return second
    return first * sign(plain * plain - rooted * rooted * square)


def sign_with_roots(plain, rooted, square, other_square):
    """The sign of p + q * R + (s + t * R) * R', for plain = (p, q) and rooted = (s, t)."""
    p, q = plain
    s, t = rooted
    first, second = sign_with_root(p, q, square), sign_with_root(s, t, square)
    if first == second or second == 0:
        return first
    if first == 0:
        return second
    # The two parts pull against each other: the one with the greater square wins.
    gap = p * p + q * q * square - (s * s + t * t * square) * other_square
    rooted_gap = 2 * (p * q - s * t * other_square)
    return first * sign_with_root(gap, rooted_gap, square)


def inner(form, vector, other):
    """The product <X, Y> of two vectors."""
    return vector[0] * other[0] + form * vector[1] * other[1]


def cross(vector, other):
    """The product [X, Y] of two vectors."""
    return vector[0] * other[1] - vector[1] * other[0]


def norm(form, vector):
    """The square N(X) of the length."""
    return inner(form, vector, vector)


def opposite_vector(vector):
    return (-vector[0], -vector[1])


def scaled_vector(vector, factor):
    return (vector[0] * factor, vector[1] * factor)


def turn_factor(form, turn):
    """How many times longer a vector gets when `turned_vector` turns it."""
    return norm(form, turn)


def turned_vector(form, vector, turn):
    p, q = turn
    cosine, sine = p * p - form * q * q, 2 * p * q
    return (cosine * vector[0] - form * sine * vector[1], sine * vector[0] + cosine * vector[1])
