"""Polynomials, the constant first: sums, values, quotients, divisors and Sturm's rows. Nothing is checked here."""

from math import gcd

from steamlinks.basics import reduced, sign


def trimmed(numbers):
    """The polynomial of a row of numbers that may end with noughts."""
    many = len(numbers)
    while many > 0 and numbers[many - 1] == 0:
        many -= 1
    return tuple(numbers[:many])


def scaled(polynomial, factor):
    return trimmed([number * factor for number in polynomial])


def sum_of(first, second):
    numbers = list(first) + [0] * (len(second) - len(first))
    for index in range(len(second)):
        numbers[index] += second[index]
    return trimmed(numbers)


def difference_of(first, second):
    return sum_of(first, scaled(second, -1))


def product_of(first, second):
    numbers = [0] * (len(first) + len(second))
    for index in range(len(first)):
        for place in range(len(second)):
            numbers[index + place] += first[index] * second[place]
    return trimmed(numbers)


def derivative(polynomial):
    return tuple([index * polynomial[index] for index in range(1, len(polynomial))])


def value_and_power(polynomial, ratio):
    """The value at n / m times m to the power of the length, and this power."""
    n, m = ratio
    value, power = 0, 1
    for number in polynomial[::-1]:
        value = value * n + number * power
        power *= m
    return value * m, power


def lifted_value(polynomial, ratio):
    """The value at n / m, m above 0, times a power of m: it has the sign of the value."""
    return value_and_power(polynomial, ratio)[0]


def value_on_grid(polynomial, place, bits):
    """The value at the place divided by 2 to the power of the bits, times a power of 2 that the length tells."""
    if bits < 0:
        return value_on_grid(polynomial, place << -bits, 0)
    value, shift = 0, 0
    for number in polynomial[::-1]:
        value = value * place + (number << shift)
        shift += bits
    return value


def sign_at_ratio(polynomial, ratio):
    return sign(lifted_value(polynomial, ratio))


def told_reduced(polynomial):
    """The polynomial, not (), reduced as point 16 tells it: with a lead above 0."""
    numbers = reduced(polynomial)
    if numbers[-1] < 0:
        return scaled(numbers, -1)
    return numbers


def left_over(first, second):
    """What is left when the first one is divided by the second one, times a ratio above 0."""
    rest = first
    while len(rest) >= len(second):
        factor = gcd(rest[-1], second[-1])
        keep, take = abs(second[-1]) // factor, sign(second[-1]) * rest[-1] // factor
        numbers = [number * keep for number in rest]
        gap = len(rest) - len(second)
        for index in range(len(second)):
            numbers[gap + index] -= take * second[index]
        rest = trimmed(numbers)
    return reduced(rest)


def quotient_of(first, second):
    """The quotient of two polynomials, the second one reduced and a divisor of the first one."""
    rest = list(first)
    numbers = []
    for gap in range(len(first) - len(second), -1, -1):
        number = rest[gap + len(second) - 1] // second[-1]
        numbers.append(number)
        for index in range(len(second)):
            rest[gap + index] -= number * second[index]
    return tuple(numbers[::-1])


def divisor_of(first, second):
    """The common divisor of two polynomials that are not both ()."""
    while second:
        first, second = second, left_over(first, second)
    return told_reduced(first)


def plain_row(polynomial):
    """Sturm's row of the plain polynomial of a polynomial other than (); the plain one is its first member."""
    whole = told_reduced(polynomial)
    row = sturm_row(whole)
    # The last member is the common divisor with the derivative, but for a number.
    if len(row[-1]) == 1:
        return row
    return sturm_row(quotient_of(whole, told_reduced(row[-1])))


def plain_of(polynomial):
    """The plain polynomial of a polynomial other than ()."""
    return plain_row(polynomial)[0]


def sturm_row(polynomial):
    """Sturm's row of a polynomial other than (), each member but for a ratio above 0."""
    row = [polynomial]
    behind = reduced(derivative(polynomial))
    while behind:
        row.append(behind)
        behind = scaled(left_over(row[-2], row[-1]), -1)
    return row


def sign_changes(numbers):
    signs = [sign(number) for number in numbers if number != 0]
    return sum([1 for index in range(1, len(signs)) if signs[index] != signs[index - 1]])


def changes_at(row, ratio):
    return sign_changes([lifted_value(polynomial, ratio) for polynomial in row])


def changes_on_grid(row, place, bits):
    return sign_changes([value_on_grid(polynomial, place, bits) for polynomial in row])


def changes_far(row, direction):
    """The sign changes beyond all roots, above (1) or below (-1)."""
    # Far out the lead alone tells the sign; below, that of an odd degree is turned.
    return sign_changes([polynomial[-1] * (1 if len(polynomial) & 1 else direction) for polynomial in row])
