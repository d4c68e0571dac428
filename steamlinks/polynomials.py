"""Polynomials: sums, products, values, reducing, common divisors, plain polynomials, counted roots."""

from steamlinks.algebra import changes_at, changes_far, divisor_of, plain_of, plain_row, product_of, sign_at_ratio
from steamlinks.algebra import sum_of, told_reduced, value_and_power
from steamlinks.basics import is_ratio, is_whole, reduced
from steamlinks.errors import InvalidPolynomial, InvalidRatio, Nought


def is_polynomial(value):
    if not isinstance(value, tuple) or not all([is_whole(number) for number in value]):
        return False
    return len(value) == 0 or value[-1] != 0


def check_polynomial(polynomial):
    if not is_polynomial(polynomial):
        raise InvalidPolynomial(polynomial)


def check_ratio(ratio):
    if not is_ratio(ratio):
        raise InvalidRatio(ratio)


def check_bound(bound):
    if bound is not None and not is_ratio(bound):
        raise InvalidRatio(bound)


def check_not_nought(polynomial):
    if not polynomial:
        raise Nought()


def added(polynomial, other):
    check_polynomial(polynomial)
    check_polynomial(other)
    return sum_of(polynomial, other)


def multiplied(polynomial, other):
    check_polynomial(polynomial)
    check_polynomial(other)
    return product_of(polynomial, other)


def value_at(polynomial, ratio):
    check_polynomial(polynomial)
    check_ratio(ratio)
    return reduced(value_and_power(polynomial, ratio))


def reduced_polynomial(polynomial):
    check_polynomial(polynomial)
    check_not_nought(polynomial)
    return told_reduced(polynomial)


def common_divisor(polynomial, other):
    check_polynomial(polynomial)
    check_polynomial(other)
    if not polynomial:
        check_not_nought(other)
    return divisor_of(polynomial, other)


def plain_polynomial(polynomial):
    check_polynomial(polynomial)
    check_not_nought(polynomial)
    return plain_of(polynomial)


def count_roots(polynomial, low, high):
    check_polynomial(polynomial)
    check_bound(low)
    check_bound(high)
    check_not_nought(polynomial)
    if low is not None and high is not None and low[0] * high[1] >= high[0] * low[1]:
        return 0
    row = plain_row(polynomial)
    above_low = changes_far(row, -1) if low is None else changes_at(row, low)
    if high is None:
        return above_low - changes_far(row, 1)
    many = above_low - changes_at(row, high)
    # Sturm's row counts a root at the upper bound, too.
    if sign_at_ratio(row[0], high) == 0:
        many -= 1
    return many
