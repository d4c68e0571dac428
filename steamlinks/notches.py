"""Lots of notches: both, either, the rest; and the notches at which a link does something."""

from steamlinks.algebra import difference_of, product_of, scaled, trimmed
from steamlinks.angles import check_angle, check_like
from steamlinks.basics import norm
from steamlinks.circle import root_square
from steamlinks.errors import InvalidLot
from steamlinks.knots import number_at, number_of, point_of
from steamlinks.links import check_link, cross_row, exhaust_row, inner_row, lead_polynomial, reach_polynomial, steam_row
from steamlinks.lots import are_apart, are_right_ends, are_same_stretches, is_in_some, joined, ratio_in, stretches_where
from steamlinks.pistons import angle_of_share, check_rod, check_share
from steamlinks.polynomials import check_ratio
from steamlinks.valves import check_end, check_event, check_state, is_steam_event, state_named


def stretch_of(value):
    """The stretch that the value is, with numbers as ends, None if it is none."""
    if not isinstance(value, tuple) or len(value) != 4:
        return None
    low, has_low, high, has_high = value
    if not (isinstance(has_low, bool) and isinstance(has_high, bool)):
        return None
    stretch = (number_of(low), has_low, number_of(high), has_high)
    if stretch[0] is None or stretch[2] is None or not are_right_ends(stretch):
        return None
    return stretch


def stretches_of(value):
    """The list of the stretches of a lot, None if the value is no lot."""
    if not isinstance(value, tuple):
        return None
    stretches = []
    for part in value:
        stretch = stretch_of(part)
        if stretch is None or (stretches and not are_apart(stretches[-1], stretch)):
            return None
        stretches.append(stretch)
    return stretches


def stretches_in(lot):
    stretches = stretches_of(lot)
    if stretches is None:
        raise InvalidLot(lot)
    return stretches


def lot_of(stretches):
    return tuple([(point_of(low), has_low, point_of(high), has_high) for low, has_low, high, has_high in stretches])


def is_lot(value):
    return stretches_of(value) is not None


def lot_holds(lot, point):
    stretches = stretches_in(lot)
    return is_in_some(stretches, number_at(point))


def lot_both(lot, other):
    stretches = stretches_in(lot)
    return lot_of(joined(stretches, stretches_in(other), lambda first, second: first and second))


def lot_either(lot, other):
    stretches = stretches_in(lot)
    return lot_of(joined(stretches, stretches_in(other), lambda first, second: first or second))


def lot_rest(lot):
    return lot_of(joined(stretches_in(lot), [], lambda first, second: not first))


def are_same_lots(lot, other):
    stretches = stretches_in(lot)
    return are_same_stretches(stretches, stretches_in(other))


def any_notch(lot):
    return ratio_in(stretches_in(lot))


def passing_row(form, row, level, angle):
    """Polynomials f, g and f * f - g * g * R * R, for which f - g * R is above 0 where x is above the level."""
    vector = (trimmed((angle[1],)), trimmed((angle[2],)))
    plain = difference_of(scaled(inner_row(form, vector, row), angle[3]), trimmed((level * norm(form, angle[1:3]),)))
    rooted = cross_row(vector, row)
    squares = difference_of(product_of(plain, plain), scaled(product_of(rooted, rooted), root_square(angle)))
    return [plain, rooted, squares]


def is_passing(signs):
    """Whether f - g * R is above 0, the signs being those of the three polynomials of `passing_row`."""
    plain, rooted, squares = signs
    if rooted == 0 or plain == -rooted:
        return plain > 0
    if plain == 0:
        return rooted < 0
    # Both parts have one sign, so that one is taken from the other one: that with the greater square wins.
    return plain * squares > 0


def event_notches(link, end, event):
    check_link(link)
    check_end(end)
    check_event(event)
    row, level = steam_row(link, end) if is_steam_event(event) else exhaust_row(link, end)
    return lot_of(stretches_where([reach_polynomial(link[0], row, level)], lambda signs: signs[0] > 0))


def lead_notches(link, end, ratio):
    check_link(link)
    check_end(end)
    check_ratio(ratio)
    n, m = ratio
    above = difference_of(scaled(lead_polynomial(link, end), m), trimmed((n,)))
    return lot_of(stretches_where([above], lambda signs: signs[0] > 0))


def state_notches(link, angle, end, state):
    check_link(link)
    check_angle(angle)
    check_end(end)
    check_state(state)
    check_like(link, angle)
    form = link[0]
    row, level = steam_row(link, end)
    polynomials = passing_row(form, row, level, angle)
    row, level = exhaust_row(link, end)
    polynomials.extend(passing_row(form, row, level, angle))
    stretches = stretches_where(
        polynomials, lambda signs: state_named(is_passing(signs[:3]), is_passing(signs[3:])) == state)
    return lot_of(stretches)


def late_notches(link, end, rod, share):
    check_link(link)
    check_end(end)
    check_rod(rod)
    check_share(share)
    form = link[0]
    part, whole = share
    angle = angle_of_share(form, rod, share, "out")
    if end == "crank":
        angle = angle_of_share(form, rod, (whole - part, whole), "back")
    row, level = steam_row(link, end)
    return lot_of(stretches_where(passing_row(form, row, level, angle), is_passing))


def blow_notches(link, end):
    check_link(link)
    check_end(end)
    form = link[0]
    sides = (steam_row(link, end), exhaust_row(link, end))
    if sides[0][1] >= -sides[1][1]:
        return ()
    # A side with a level below 0 has places whatever the eccentric is.
    polynomials = [reach_polynomial(form, row, level) for row, level in sides if level >= 0]
    return lot_of(stretches_where(polynomials, lambda signs: all([found > 0 for found in signs])))
