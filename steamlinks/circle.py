"""Places of the turn told by angles: signs, order, and ways between them. Nothing is checked here."""

from math import isqrt

from steamlinks.angles import angle_on_way
from steamlinks.basics import cross, inner, norm, opposite_vector, reduced
from steamlinks.basics import sign, sign_with_root, sign_with_roots


def root_square(angle):
    """The square of R, r * (N - l * l)."""
    form, a, b, level = angle
    return form * (norm(form, (a, b)) - level * level)


def place_sign(angle, vector, level):
    """The sign of <u, vector> - level at the angle's place."""
    form, a, b, height = angle
    along, across = inner(form, (a, b), vector), cross((a, b), vector)
    plain = height * along - level * norm(form, (a, b))
    return sign_with_root(plain, -across, root_square(angle))


def along_order(angle, other, vector):
    """The sign of <u, vector> at the first place less that at the other one."""
    size, far_size = norm(angle[0], angle[1:3]), norm(other[0], other[1:3])
    along = angle[3] * inner(angle[0], angle[1:3], vector)
    far_along = other[3] * inner(other[0], other[1:3], vector)
    # As point 7 tells it, <u, vector> is (along - across * R) / N.
    plain = (along * far_size - far_along * size, -cross(angle[1:3], vector) * far_size)
    rooted = (cross(other[1:3], vector) * size, 0)
    return sign_with_roots(plain, rooted, root_square(angle), root_square(other))


def sine_sign(angle, other):
    """The sign of the sine of the angle from the first place ahead to the other one, as point 8 tells it."""
    form, level, far = angle[0], angle[3], other[3]
    along, across = inner(form, angle[1:3], other[1:3]), cross(angle[1:3], other[1:3])
    plain = (form * level * far * across, far * along)
    rooted = (-level * along, across)
    return sign_with_roots(plain, rooted, root_square(angle), root_square(other))


def is_in_first_half(angle):
    """Whether the place is met from that of (1, 0) on and ahead of that of (-1, 0)."""
    height = place_sign(angle, (0, 1), 0)
    return height > 0 or (height == 0 and place_sign(angle, (1, 0), 0) > 0)


def share_place(angle, other):
    # The sine is 0 for places half a turn apart, too, but these never lie in the same half.
    return is_in_first_half(angle) == is_in_first_half(other) and sine_sign(angle, other) == 0


def comes_before(angle, other):
    """Whether the first place is ahead of the other one in the turn order."""
    first = is_in_first_half(angle)
    if first != is_in_first_half(other):
        return first
    # Within one half of the turn no two places are half a turn apart, so the sine alone tells.
    return sine_sign(angle, other) > 0


def lies_between(angle, low, high):
    """Whether the place is met behind low and ahead of high; with one place for both, whether it is another."""
    if comes_before(low, high):
        return comes_before(low, angle) and comes_before(angle, high)
    return comes_before(low, angle) or comes_before(angle, high)


def merged(first, second):
    rows = []
    taken = 0
    for row in second:
        while taken < len(first) and not comes_before(row[-1], first[taken][-1]):
            rows.append(first[taken])
            taken += 1
        rows.append(row)
    return rows + first[taken:]


def in_turn_order(rows):
    """The rows, each with an angle at its end, in the turn order; at one place they stay as they stood."""
    if len(rows) < 2:
        return list(rows)
    half = len(rows) // 2
    return merged(in_turn_order(rows[:half]), in_turn_order(rows[half:]))


def places_in_order(angles):
    """One of the angles for each of their places, in the turn order."""
    places = []
    for row in in_turn_order([(angle,) for angle in angles]):
        if not places or not share_place(places[-1], row[0]):
            places.append(row[0])
    return places


def exact_way(angle):
    """The way at the angle's place, None if there is none."""
    form, a, b, level = angle
    if level == 0:
        return reduced((form * b, -a))
    square = root_square(angle)
    root = isqrt(square)
    if root * root != square:
        return None
    return reduced((form * (level * a + root * b), form * level * b - root * a))


def scaled_root(number, square, bits):
    """About number times the root of the square times the power of 2: at most 1 nearer to 0."""
    return sign(number) * isqrt((number * number * square) << (2 * bits))


def near_arrow(angle, bits):
    """The vector of the arrow u times the power of 2, each number off by 2 at most."""
    form, a, b, level = angle
    size, square = norm(form, (a, b)), root_square(angle)
    first = ((level * a) << bits) + scaled_root(b, square, bits)
    second = ((form * level * b) << bits) - scaled_root(a, square, bits)
    return (first // size, second // (form * size))


def near_middle(low, high, bits):
    """About the middle of the arc from low ahead to high: their difference, turned back by a quarter."""
    begin, end = near_arrow(low, bits), near_arrow(high, bits)
    if begin == end:
        # The arc is all of the turn but one place, or nearly all of it, or too short for these figures.
        return opposite_vector(begin)
    return (low[0] * (end[1] - begin[1]), begin[0] - end[0])


def some_way_between(low, high):
    bits = 4
    way = reduced(near_middle(low, high, bits))
    while not lies_between(angle_on_way(low[0], way), low, high):
        # The places are nearer to each other than the numbers tell: twice as many figures come closer.
        bits *= 2
        way = reduced(near_middle(low, high, bits))
    return way
