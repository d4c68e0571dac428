"""Links: their valves, eccentrics and leads at the notches."""

from steamlinks.algebra import difference_of, product_of, scaled, sum_of, trimmed, value_and_power
from steamlinks.angles import is_form, is_vector
from steamlinks.basics import common_factor, is_ratio, reduced
from steamlinks.errors import InvalidLink, InvalidNotch
from steamlinks.valves import check_end, is_laps, is_port, valve_made


def is_link(value):
    if not isinstance(value, tuple) or len(value) != 6:
        return False
    form, first, second, third, laps, port = value
    if not (is_form(form) and is_vector(first) and is_vector(second) and is_vector(third)):
        return False
    if not (is_laps(laps) and is_port(port)):
        return False
    return common_factor(first + second + third + laps + (port,)) == 1


def is_notch(value):
    return is_ratio(value) and -value[1] <= value[0] <= value[1]


def check_link(link):
    if not is_link(link):
        raise InvalidLink(link)


def check_notch(notch):
    if not is_notch(notch):
        raise InvalidNotch(notch)


def eccentric_row(link):
    """The pair of polynomials in the notch that the eccentric is."""
    first, second, third = link[1:4]
    return tuple([trimmed((first[index], second[index], third[index])) for index in (0, 1)])


def opposite_row(row):
    return (scaled(row[0], -1), scaled(row[1], -1))


def inner_row(form, row, other):
    """The product <X, Y> of two vectors that are pairs of polynomials."""
    return sum_of(product_of(row[0], other[0]), scaled(product_of(row[1], other[1]), form))


def cross_row(row, other):
    """The product [X, Y] of two vectors that are pairs of polynomials."""
    return difference_of(product_of(row[0], other[1]), product_of(row[1], other[0]))


def steam_row(link, end):
    """As `steam_side` of a valve, the vector as a pair of polynomials."""
    if end == "head":
        return (eccentric_row(link), link[4][0])
    return (opposite_row(eccentric_row(link)), link[4][2])


def exhaust_row(link, end):
    """As `exhaust_side` of a valve, the vector as a pair of polynomials."""
    if end == "head":
        return (opposite_row(eccentric_row(link)), link[4][1])
    return (eccentric_row(link), link[4][3])


def reach_polynomial(form, row, level):
    """N(E) - L * L, above 0 where x rises and falls through the level."""
    return difference_of(inner_row(form, row, row), trimmed((level * level,)))


def lead_polynomial(link, end):
    lap = link[4][0] if end == "head" else link[4][2]
    return difference_of(eccentric_row(link)[0], trimmed((lap,)))


def valve_on(link, notch):
    form, first, second, third, laps, port = link
    n, m = notch
    vector = tuple([m * m * first[index] + n * m * second[index] + n * n * third[index] for index in (0, 1)])
    return valve_made(form, vector, tuple([m * m * lap for lap in laps]), m * m * port)


def valve_at(link, notch):
    check_link(link)
    check_notch(notch)
    return valve_on(link, notch)


def eccentric_of(link):
    check_link(link)
    return eccentric_row(link)


def lead_at(link, end, notch):
    check_link(link)
    check_end(end)
    check_notch(notch)
    return reduced(value_and_power(lead_polynomial(link, end), notch))


def has_one_lead(link, end):
    check_link(link)
    check_end(end)
    return len(lead_polynomial(link, end)) < 2
