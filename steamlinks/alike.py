"""Valves and links that do the same: at all angles, after some turn, at a notch, at all notches."""

from steamlinks.algebra import difference_of, scaled
from steamlinks.angles import check_like
from steamlinks.basics import cross, inner, norm, sign
from steamlinks.links import check_link, check_notch, cross_row, eccentric_row, inner_row, reach_polynomial, valve_on
from steamlinks.lots import joined, ratio_in, stretches_where
from steamlinks.notches import lot_of
from steamlinks.regions import some_parting_angle
from steamlinks.valves import ENDS, check_valve, exhaust_side, steam_side


def side_kind(level, reach):
    """Of which of the four kinds a side is, by its level and the sign of N - L * L."""
    if reach > 0:
        return "arc"
    if level >= 0:
        return "none"
    if reach < 0:
        return "all"
    return "all but one"


def is_same_span(signs, level, other):
    """Whether some turn takes the first side to the other one, by the signs of N - L * L, N' - L' * L', the gap."""
    reach, far_reach, gap = signs
    kind = side_kind(level, reach)
    if kind != side_kind(other, far_reach):
        return False
    return kind in ("none", "all") or (sign(level) == sign(other) and gap == 0)


def is_bound(signs, level):
    """Whether a side is neither nothing nor all, so that the way of its eccentric counts."""
    return side_kind(level, signs[0]) not in ("none", "all")


def are_same_spans(signs, laps, others):
    return all([is_same_span(signs[3 * index:3 * index + 3], laps[index], others[index]) for index in range(4)])


def are_same_sides(signs, laps, others):
    """Whether valves are alike, by the signs of [E, E'], <E, E'> and those of the four levels."""
    across, along = signs[:2]
    spans = signs[2:]
    if not are_same_spans(spans, laps, others):
        return False
    if across == 0 and along > 0:
        return True
    return not any([is_bound(spans[3 * index:3 * index + 3], laps[index]) for index in range(4)])


def span_signs(valve, other):
    """For each level the signs of N - L * L, N' - L' * L' and of the gap L * L * N' - L' * L' * N."""
    size, far_size = norm(valve[0], valve[1]), norm(other[0], other[1])
    numbers = []
    for lap, far_lap in zip(valve[2], other[2]):
        numbers.append(size - lap * lap)
        numbers.append(far_size - far_lap * far_lap)
        numbers.append(lap * lap * far_size - far_lap * far_lap * size)
    return [sign(number) for number in numbers]


def valves_are_alike(valve, other):
    ways = [sign(cross(valve[1], other[1])), sign(inner(valve[0], valve[1], other[1]))]
    return are_same_sides(ways + span_signs(valve, other), valve[2], other[2])


def angle_of_unlike(valve, other):
    """An angle at which some end takes steam or exhausts in just one of both valves, None if there is none."""
    for end in ENDS:
        for side, far_side in (
            (steam_side(valve, end), steam_side(other, end)), (exhaust_side(valve, end), exhaust_side(other, end)),
        ):
            angle = some_parting_angle((valve[0], ("side",) + side), (other[0], ("side",) + far_side))
            if angle is not None:
                return angle
    return None


def polynomials_of_both(link, other):
    """The polynomials in the notch that have the signs of `are_same_sides`."""
    form = link[0]
    row, far_row = eccentric_row(link), eccentric_row(other)
    size, far_size = inner_row(form, row, row), inner_row(form, far_row, far_row)
    polynomials = [cross_row(row, far_row), inner_row(form, row, far_row)]
    for lap, far_lap in zip(link[4], other[4]):
        polynomials.append(reach_polynomial(form, row, lap))
        polynomials.append(reach_polynomial(form, far_row, far_lap))
        polynomials.append(difference_of(scaled(far_size, lap * lap), scaled(size, far_lap * far_lap)))
    return polynomials


def stretches_alike(link, other):
    return stretches_where(
        polynomials_of_both(link, other), lambda signs: are_same_sides(signs, link[4], other[4]))


def notch_of_unlike(link, other):
    """A notch at which the links are not alike, None if there is none."""
    return ratio_in(joined(stretches_alike(link, other), [], lambda is_alike, is_other: not is_alike))


def check_two_valves(valve, other):
    check_valve(valve)
    check_valve(other)
    check_like(valve, other)


def check_two_links(link, other):
    check_link(link)
    check_link(other)
    check_like(link, other)


def are_alike(valve, other):
    check_two_valves(valve, other)
    return valves_are_alike(valve, other)


def unlike_angle(valve, other):
    check_two_valves(valve, other)
    return angle_of_unlike(valve, other)


def are_alike_turned(valve, other):
    check_two_valves(valve, other)
    return are_same_spans(span_signs(valve, other), valve[2], other[2])


def are_alike_at(link, other, notch):
    check_link(link)
    check_link(other)
    check_notch(notch)
    check_like(link, other)
    return valves_are_alike(valve_on(link, notch), valve_on(other, notch))


def are_always_alike(link, other):
    check_two_links(link, other)
    return notch_of_unlike(link, other) is None


def alike_notches(link, other):
    check_two_links(link, other)
    return lot_of(stretches_alike(link, other))


def parting_notch(link, other):
    check_two_links(link, other)
    notch = notch_of_unlike(link, other)
    if notch is None:
        return None
    return (notch, angle_of_unlike(valve_on(link, notch), valve_on(other, notch)))
