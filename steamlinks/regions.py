"""Regions of the turn: their cuts and arcs, and whether they are empty, everywhere, within others, the same."""

from steamlinks.angles import check_angle, check_like, check_turn, is_form
from steamlinks.basics import opposite_vector, turn_factor, turned_vector
from steamlinks.errors import InvalidRegion
from steamlinks.trees import both_trees, changed_tree, first_angle, is_tree, other_tree
from steamlinks.trees import tree_arcs, tree_cuts, tree_holds


def is_region(value):
    return isinstance(value, tuple) and len(value) == 2 and is_form(value[0]) and is_tree(value[1])


def check_region(region):
    if not is_region(region):
        raise InvalidRegion(region)


def check_two_regions(region, other):
    check_region(region)
    check_region(other)
    check_like(region, other)


def holds(region, angle):
    check_region(region)
    check_angle(angle)
    check_like(region, angle)
    return tree_holds(region[1], angle)


def cuts(region):
    check_region(region)
    form, tree = region
    return tuple(tree_cuts(form, tree))


def arcs(region):
    check_region(region)
    form, tree = region
    return tree_arcs(form, tree)


def is_never(region):
    check_region(region)
    form, tree = region
    return first_angle(form, tree) is None


def is_always(region):
    check_region(region)
    form, tree = region
    return first_angle(form, other_tree(tree)) is None


def angle_outside(region, other):
    """An angle in the first region that is not in the other one, None if there is none."""
    return first_angle(region[0], both_trees(region[1], other_tree(other[1])))


def lies_within(region, other):
    check_two_regions(region, other)
    return angle_outside(region, other) is None


def some_parting_angle(region, other):
    angle = angle_outside(region, other)
    if angle is None:
        return angle_outside(other, region)
    return angle


def is_same_region(region, other):
    check_two_regions(region, other)
    return some_parting_angle(region, other) is None


def some_angle(region):
    check_region(region)
    form, tree = region
    return first_angle(form, tree)


def parting_angle(region, other):
    check_two_regions(region, other)
    return some_parting_angle(region, other)


def opposite_region(region):
    check_region(region)
    form, tree = region
    return (form, changed_tree(tree, lambda vector, level: (opposite_vector(vector), level)))


def turned_region(region, turn):
    check_region(region)
    check_turn(turn)
    form, tree = region
    factor = turn_factor(form, turn)
    return (form, changed_tree(tree, lambda vector, level: (turned_vector(form, vector, turn), level * factor)))
