"""An independent reckoning with long decimal fractions, to hold the exact answers against."""

from decimal import Decimal, getcontext
from functools import lru_cache

getcontext().prec = 90
NEAR = Decimal(10) ** -35


def sign(number):
    """1, 0 or -1; what is nearer to 0 than any number of these tests can be without being 0 counts as 0."""
    if abs(number) < NEAR:
        return 0
    return 1 if number > 0 else -1


def norm(form, vector):
    return vector[0] * vector[0] + form * vector[1] * vector[1]


def arrow(angle):
    """The arrow u at an angle, as the parenthesis of point 7 tells it."""
    form, a, b, level = angle
    size = norm(form, (a, b))
    across = Decimal(size - level * level).sqrt()
    high = b * Decimal(form).sqrt()
    return ((level * a + across * high) / size, (level * high - across * a) / size)


def way_arrow(form, way):
    length = Decimal(norm(form, way)).sqrt()
    return (way[0] / length, way[1] * Decimal(form).sqrt() / length)


def along(form, place, vector):
    """<u, vector>"""
    return place[0] * vector[0] + place[1] * vector[1] * Decimal(form).sqrt()


def side_sign(form, place, vector, level):
    return sign(along(form, place, vector) - level)


def position(place):
    """Grows in the turn order from 0, at (1, 0), to just below 4."""
    x, y = place
    if sign(y) == 0:
        return Decimal(0) if x > 0 else Decimal(2)
    return 1 - x if y > 0 else 3 + x


def steps_on(place, low):
    """Grows from 0, at low, to just below 4, as the crank turns on from there."""
    x = place[0] * low[0] + place[1] * low[1]
    y = place[1] * low[0] - place[0] * low[1]
    return position((x, y))


def is_same(place, other):
    return sign(steps_on(place, other)) == 0


def is_between(place, low, high):
    if is_same(place, low) or is_same(place, high):
        return False
    return is_same(low, high) or sign(steps_on(high, low) - steps_on(place, low)) > 0


def tree_holds(form, tree, place):
    word = tree[0]
    if word == "all":
        return True
    if word == "side":
        return side_sign(form, place, tree[1], tree[2]) > 0
    if word == "not":
        return not tree_holds(form, tree[1], place)
    parts = [tree_holds(form, part, place) for part in tree[1]]
    return all(parts) if word == "and" else any(parts)


def in_arc(place, arc):
    """Whether a place lies in an arc as point 11 tells it."""
    begin, has_begin, end, has_end = arc
    if begin is None:
        return True
    low, high = arrow(begin), arrow(end)
    if is_same(place, low):
        return has_begin or (has_end and is_same(low, high))
    if is_same(place, high):
        return has_end
    if is_same(low, high):
        return not has_begin
    return is_between(place, low, high)


def state(valve, end, place):
    """The state of an end, straight from point 12."""
    form, vector, (sh, xh, sc, xc), _ = valve
    x = along(form, place, vector)
    if end == "head":
        steam, exhaust = sign(x - sh) > 0, sign(-x - xh) > 0
    else:
        steam, exhaust = sign(-x - sc) > 0, sign(x - xc) > 0
    return {(True, False): "steam", (False, True): "exhaust", (True, True): "both"}.get((steam, exhaust), "closed")


def opening_share(valve, end, place):
    """The opening divided by PORT, straight from point 14."""
    form, vector, laps, port = valve
    x = along(form, place, vector)
    stand = x - laps[0] if end == "head" else -x - laps[2]
    return min(max(stand, Decimal(0)), Decimal(port)) / port


def stroke_share(rod, cosine):
    """The share of the stroke, straight from point 15."""
    if rod is None:
        return (1 - cosine) / 2
    long = Decimal(rod[0]) / rod[1]
    return (long + 1 - cosine - (long * long - 1 + cosine * cosine).sqrt()) / 2


def value(polynomial, number):
    total = Decimal(0)
    for c in reversed(polynomial):
        total = total * number + c
    return total


def single_root(polynomial, derivative, low, high):
    """The root between two numbers at which the polynomial has unlike signs: Newton's steps, halving where they leave."""
    begin = sign(value(polynomial, low))
    found, step = (low + high) / 2, high - low
    while abs(step) > Decimal(10) ** -75:
        here, slope = value(polynomial, found), value(derivative, found)
        if here * begin > 0:
            low = found
        else:
            high = found
        last = found
        found = (low + high) / 2 if slope == 0 else found - here / slope
        if not low <= found <= high or abs(found - last) * 2 > abs(step):
            found = (low + high) / 2
        step = found - last
    return found


@lru_cache(maxsize=None)
def real_roots(polynomial):
    """The different real roots of a polynomial other than (), ascending: between the roots of its derivative."""
    if len(polynomial) < 2:
        return []
    if len(polynomial) == 2:
        return [Decimal(-polynomial[0]) / polynomial[1]]
    derivative = tuple(power * c for power, c in enumerate(polynomial))[1:]
    most = 2 + max(abs(Decimal(c) / polynomial[-1]) for c in polynomial)
    marks = [-most] + real_roots(derivative) + [most]
    roots = [mark for mark in marks if sign(value(polynomial, mark)) == 0]
    for low, high in zip(marks, marks[1:]):
        if sign(value(polynomial, low)) * sign(value(polynomial, high)) < 0:
            roots.append(single_root(polynomial, derivative, low, high))
    roots = sorted(roots)
    return [root for index, root in enumerate(roots) if index == 0 or sign(root - roots[index - 1]) != 0]


def number(point):
    """What a point stands for."""
    if isinstance(point[0], int):
        return Decimal(point[0]) / point[1]
    return real_roots(point[0])[point[1]]
