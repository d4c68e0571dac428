"""Points: ratios, and knots, the roots of polynomials that are no ratios; signs there, comparing, enclosing."""

from steamlinks.algebra import plain_row
from steamlinks.basics import is_ratio, is_whole, reduced
from steamlinks.errors import InvalidPoint, InvalidRatio, Same
from steamlinks.polynomials import check_not_nought, check_polynomial, is_polynomial
from steamlinks.roots import Root, number_order, numbers_at_nought, numbers_of_row, sign_at_number, some_ratio_between


def root_of_knot(value):
    """The root that a knot stands for, None if the value is no knot."""
    if not isinstance(value, tuple) or len(value) != 2:
        return None
    polynomial, index = value
    if not (is_polynomial(polynomial) and len(polynomial) > 2 and is_whole(index) and index >= 0):
        return None
    row = plain_row(polynomial)
    if row[0] != polynomial:
        return None
    numbers = numbers_of_row(row)
    if index >= len(numbers) or not all([isinstance(number, Root) for number in numbers]):
        return None
    return numbers[index]


def number_of(value):
    """The number that a point stands for, None if the value is no point."""
    if is_ratio(value):
        return value
    return root_of_knot(value)


def number_at(point):
    number = number_of(point)
    if number is None:
        raise InvalidPoint(point)
    return number


def point_of(number):
    if isinstance(number, Root):
        return (number.polynomial, number.index)
    return number


def is_knot(value):
    return root_of_knot(value) is not None


def is_point(value):
    return number_of(value) is not None


def roots_of(polynomial):
    check_polynomial(polynomial)
    check_not_nought(polynomial)
    return tuple([point_of(number) for number in numbers_at_nought(polynomial)])


def sign_at(polynomial, point):
    check_polynomial(polynomial)
    return sign_at_number(polynomial, number_at(point))


def compare_points(point, other):
    number = number_at(point)
    return number_order(number, number_at(other))


def ratio_between(point, other):
    number, another = number_at(point), number_at(other)
    order = number_order(number, another)
    if order == 0:
        raise Same(other)
    if order > 0:
        number, another = another, number
    return some_ratio_between(number, another)


def enclosed(point, ratio):
    number = number_at(point)
    if not is_ratio(ratio) or ratio[0] <= 0:
        raise InvalidRatio(ratio)
    n, m = ratio
    if not isinstance(number, Root):
        middle = 2 * number[0] * m
        step, whole = n * number[1], 2 * number[1] * m
        return (reduced((middle - step, whole)), reduced((middle + step, whole)))
    low, high = number.low(), number.high()
    while (high[0] - low[0]) * m > n * high[1]:
        number.closer()
        low, high = number.low(), number.high()
    return (reduced(low), reduced(high))
