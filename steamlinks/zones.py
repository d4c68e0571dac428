"""Geared engines: their critical notches, and the zones between these in which they start by themselves."""

from steamlinks.algebra import difference_of, product_of, scaled, sum_of, trimmed
from steamlinks.angles import is_form, is_turn
from steamlinks.basics import is_whole, norm, scaled_vector, turn_factor, turned_vector
from steamlinks.engines import angle_not_above, check_sense
from steamlinks.errors import InvalidGeared, InvalidNotch
from steamlinks.knots import point_of
from steamlinks.links import check_notch, cross_row, eccentric_row, inner_row, is_link, reach_polynomial, valve_on
from steamlinks.lots import marks_of_polynomials
from steamlinks.polynomials import count_roots
from steamlinks.roots import ratio_order, some_ratio_between

MOST_GEARS = 2


def is_gear(value, form):
    if not isinstance(value, tuple) or len(value) != 3:
        return False
    turn, weight, link = value
    return is_turn(turn) and is_whole(weight) and weight > 0 and is_link(link) and link[0] == form


def is_geared(value):
    if not isinstance(value, tuple) or len(value) != 2 or not is_form(value[0]):
        return False
    form, gears = value
    if not isinstance(gears, tuple) or not 1 <= len(gears) <= MOST_GEARS:
        return False
    return all([is_gear(gear, form) for gear in gears])


def check_geared(geared):
    if not is_geared(geared):
        raise InvalidGeared(geared)


def check_bounds(low, high):
    """Both are notches, the second one above the first one."""
    check_notch(low)
    check_notch(high)
    if ratio_order(low, high) >= 0:
        raise InvalidNotch(high)


def engine_on(geared, notch):
    form, gears = geared
    return (form, tuple([(turn, weight, valve_on(link, notch)) for turn, weight, link in gears]))


def mixed_row(row, factor, other, far_factor):
    """The first vector times its factor and the other one times its own, both as pairs of polynomials."""
    return tuple([sum_of(scaled(row[index], factor), scaled(other[index], far_factor)) for index in (0, 1)])


def gear_row(form, gear):
    """F of point 30: <u, F> is x times the factor of the turn, with the arrow u of the engine's crank."""
    (p, q), _, link = gear
    cosine, sine = turned_vector(form, (1, 0), (p, -q))
    first, second = eccentric_row(link)
    return (
        difference_of(scaled(first, cosine), scaled(second, form * sine)),
        sum_of(scaled(first, sine), scaled(second, cosine)),
    )


def gear_levels(form, gear):
    turn, _, link = gear
    sh, xh, sc, xc = link[4]
    factor = turn_factor(form, turn)
    return [factor * level for level in (sh, -xh, -sc, xc)]


def pull_line(form, turn):
    """The vector along which a cylinder with this turn pulls."""
    p, q = turn
    return (2 * form * p * q, p * p - form * q * q)


def moment_vectors(geared):
    form, gears = geared
    lines = [pull_line(form, turn) for turn, _, _ in gears]
    if len(gears) == 1:
        return lines
    (turn, weight, _), (far_turn, far_weight, _) = gears
    first = scaled_vector(lines[0], turn_factor(form, far_turn) * weight)
    second = scaled_vector(lines[1], turn_factor(form, turn) * far_weight)
    together = (first[0] + second[0], first[1] + second[1])
    against = (first[0] - second[0], first[1] - second[1])
    return lines + [together, against]


def rooted_square(form, row, other):
    """r times the square of [X, Y] of two vectors that are pairs of polynomials."""
    across = cross_row(row, other)
    return scaled(product_of(across, across), form)


def meeting_polynomial(form, row, level, other, far_level):
    """Nought where the lines <u, row> = level and <u, other> = far_level meet at a place, or are one direction."""
    gap = mixed_row(other, level, row, -far_level)
    return difference_of(rooted_square(form, row, other), inner_row(form, gap, gap))


def passing_polynomial(form, row, level, vector):
    """Nought where <u, row> is the level at a place at which <u, vector> is 0."""
    line = (trimmed((vector[0],)), trimmed((vector[1],)))
    return difference_of(rooted_square(form, row, line), trimmed((level * level * norm(form, vector),)))


def critical_polynomials(geared):
    form, gears = geared
    rows = [gear_row(form, gear) for gear in gears]
    levels = [gear_levels(form, gear) for gear in gears]
    polynomials = []
    for row, own in zip(rows, levels):
        for level in own:
            polynomials.append(reach_polynomial(form, row, level))
            for vector in moment_vectors(geared):
                polynomials.append(passing_polynomial(form, row, level, vector))
    if len(gears) == 2:
        polynomials.append(cross_row(rows[0], rows[1]))
        for level in levels[0]:
            for far_level in levels[1]:
                polynomials.append(meeting_polynomial(form, rows[0], level, rows[1], far_level))
    return polynomials


def marks_between(geared):
    """-1, the critical notches, and 1, ascending."""
    return marks_of_polynomials(critical_polynomials(geared))


def is_started(geared, sense, notch):
    return angle_not_above(engine_on(geared, notch), sense, (0, 1)) is None


def some_notch(geared, sense, is_meant):
    """A ratio in an open zone in which starting is as it is meant, None if there is none."""
    marks = marks_between(geared)
    for index in range(1, len(marks)):
        notch = some_ratio_between(marks[index - 1], marks[index])
        if is_started(geared, sense, notch) == is_meant:
            return notch
    return None


def has_root_between(polynomial, low, high):
    """Whether a polynomial that is not () has a root strictly between two ratios."""
    return len(polynomial) > 0 and count_roots(polynomial, low, high) > 0


def is_within_zone(geared, sense, low, high):
    """Whether the geared engine starts strictly between two ratios, and no critical notch lies there."""
    if not is_started(geared, sense, some_ratio_between(low, high)):
        return False
    return not any([has_root_between(polynomial, low, high) for polynomial in critical_polynomials(geared)])


def engine_at(geared, notch):
    check_geared(geared)
    check_notch(notch)
    return engine_on(geared, notch)


def critical_notches(geared):
    check_geared(geared)
    return tuple([point_of(number) for number in marks_between(geared)[1:-1]])


def starts_at(geared, sense, notch):
    check_geared(geared)
    check_sense(sense)
    check_notch(notch)
    return is_started(geared, sense, notch)


def starting_zones(geared, sense):
    check_geared(geared)
    check_sense(sense)
    marks = marks_between(geared)
    zones = []
    for index in range(1, len(marks)):
        low, high = marks[index - 1], marks[index]
        if is_started(geared, sense, some_ratio_between(low, high)):
            zones.append((point_of(low), point_of(high)))
    return tuple(zones)


def any_starting_notch(geared, sense):
    check_geared(geared)
    check_sense(sense)
    return some_notch(geared, sense, True)


def stalling_notch(geared, sense):
    check_geared(geared)
    check_sense(sense)
    return some_notch(geared, sense, False)
