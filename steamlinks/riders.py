"""Riders: valves on the backs of others, and what the distances of their plates leave open."""

from math import isqrt

from steamlinks.angles import angle_on_way, check_angle, check_like, is_vector
from steamlinks.basics import norm, opposite_vector, reduced, scaled_vector
from steamlinks.circle import along_order, place_sign, share_place
from steamlinks.errors import InvalidVector
from steamlinks.polynomials import check_ratio
from steamlinks.trees import both_trees, first_angle, other_tree, tree_arcs, tree_holds
from steamlinks.valves import check_end, check_valve, steam_side


def check_rider(rider):
    if not is_vector(rider):
        raise InvalidVector(rider)


def distance_vector(valve, rider, end):
    """The vector D for which the way to the end is open, as far as the rider goes, where <u, D> is below K."""
    vector = valve[1]
    gap = (rider[0] - vector[0], rider[1] - vector[1])
    if end == "head":
        return gap
    return opposite_vector(gap)


def main_tree(valve, end):
    return ("side",) + steam_side(valve, end)


def plate_tree(vector, ratio):
    """The places at which <u, vector> is below the ratio."""
    return ("side", scaled_vector(vector, -ratio[1]), -ratio[0])


def main_ends(valve, end):
    """The two ends of the main arc, () if the main region is nothing or all of the turn."""
    arcs = tree_arcs(valve[0], main_tree(valve, end))
    if not arcs or arcs[0][0] is None:
        return ()
    return (arcs[0][0], arcs[0][2])


def kind_at(valve, rider, end, ratio):
    form, main = valve[0], main_tree(valve, end)
    plate = plate_tree(distance_vector(valve, rider, end), ratio)
    arcs = tree_arcs(form, both_trees(main, plate))
    if not arcs:
        return "shut"
    if first_angle(form, both_trees(main, other_tree(plate))) is None:
        return "whole"
    if len(arcs) == 2:
        return "twice"
    ends = main_ends(valve, end)
    if ends and share_place(arcs[0][0], ends[0]):
        return "early"
    if ends and share_place(arcs[0][2], ends[1]):
        return "late"
    return "inner"


def posts_of(valve, vector, end):
    form, main = valve[0], main_tree(valve, end)
    if vector == (0, 0):
        return [angle_on_way(form, (1, 0))]
    ways = [angle_on_way(form, reduced(vector)), angle_on_way(form, reduced(opposite_vector(vector)))]
    return list(main_ends(valve, end)) + [way for way in ways if tree_holds(main, way)]


def marks_along(valve, vector, end):
    """One of the posts for each value of <u, vector> there, ascending by these values."""
    marks = []
    for post in posts_of(valve, vector, end):
        orders = [along_order(mark, post, vector) for mark in marks]
        if 0 not in orders:
            marks.insert(orders.count(-1), post)
    return marks


def ratio_parting(low, high, vector, most):
    """A ratio between the values of <u, vector> at two angles, the first one less, both less than most."""
    n, m = 0, 1
    settled = False
    while not settled:
        # Halving the gap again and again meets a ratio between them at last.
        if place_sign(low, scaled_vector(vector, m), n) >= 0:
            n, m = 2 * n + most, 2 * m
        elif place_sign(high, scaled_vector(vector, m), n) <= 0:
            n, m = 2 * n - most, 2 * m
        else:
            settled = True
    return reduced((n, m))


def open_region(valve, rider, end, ratio):
    check_valve(valve)
    check_rider(rider)
    check_end(end)
    check_ratio(ratio)
    plate = plate_tree(distance_vector(valve, rider, end), ratio)
    return (valve[0], both_trees(main_tree(valve, end), plate))


def plate_kind(valve, rider, end, ratio):
    check_valve(valve)
    check_rider(rider)
    check_end(end)
    check_ratio(ratio)
    return kind_at(valve, rider, end, ratio)


def plate_marks(valve, rider, end):
    check_valve(valve)
    check_rider(rider)
    check_end(end)
    return tuple(marks_along(valve, distance_vector(valve, rider, end), end))


def plate_kinds(valve, rider, end):
    check_valve(valve)
    check_rider(rider)
    check_end(end)
    vector = distance_vector(valve, rider, end)
    marks = marks_along(valve, vector, end)
    # Beyond all that <u, vector> can be.
    most = isqrt(norm(valve[0], vector)) + 1
    ratios = [(-most, 1)]
    for index in range(1, len(marks)):
        ratios.append(ratio_parting(marks[index - 1], marks[index], vector, most))
    if marks:
        ratios.append((most, 1))
    return tuple([kind_at(valve, rider, end, ratio) for ratio in ratios])


def compare_distance(valve, rider, end, angle, ratio):
    check_valve(valve)
    check_rider(rider)
    check_end(end)
    check_angle(angle)
    check_ratio(ratio)
    check_like(valve, angle)
    vector = distance_vector(valve, rider, end)
    return place_sign(angle, scaled_vector(vector, ratio[1]), ratio[0])
