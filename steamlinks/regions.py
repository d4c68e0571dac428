"""Regions of the turn: their cuts and arcs, and whether they are empty, everywhere, within others, the same."""

from steamlinks.angles import check_angle, check_like, check_turn, is_form
from steamlinks.basics import opposite_vector, turn_factor, turned_vector
from steamlinks.errors import InvalidRegion
from steamlinks.trees import angle_behind, both_trees, changed_tree, first_angle, is_tree, other_tree
from steamlinks.trees import tree_cuts, tree_holds


def is_region(value):
    return isinstance(value, tuple) and len(value) == 2 and is_form(value[0]) and is_tree(value[1])


def check_region(region):
    if not is_region(region):
        raise InvalidRegion(region)


def check_two_regions(region, other):
    check_region(region)
    check_region(other)
    check_like(region, other)


def holds(region, angle):
    check_region(region)
    check_angle(angle)
    check_like(region, angle)
    return tree_holds(region[1], angle)


def cuts(region):
    check_region(region)
    form, tree = region
    return tuple(tree_cuts(form, tree))


def arcs(region):
    check_region(region)
    form, tree = region
    marks = tree_cuts(form, tree)
    if not marks:
        return round_arcs(first_angle(form, tree) is not None)
    truths = []
    for index in range(len(marks)):
        truths.append(tree_holds(tree, marks[index]))
        truths.append(tree_holds(tree, angle_behind(form, marks, index)))
    if all(truths):
        return round_arcs(True)
    begins = [index for index in range(len(truths)) if truths[index] and not truths[index - 1]]
    return tuple([arc_from(marks, truths, begin) for begin in begins])


def round_arcs(is_all):
    """The arcs of a region that is all of the turn, or nothing."""
    if is_all:
        return ((None, True, None, True),)
    return ()


def arc_from(marks, truths, begin):
    """The arc that begins at a cut, with an even index in the truths, or in the open arc behind it."""
    end = begin
    while truths[(end + 1) % len(truths)]:
        end += 1
    # An open arc ends at the cut that follows it.
    last = marks[(end + 1) // 2 % len(marks)]
    return (marks[begin // 2], begin % 2 == 0, last, end % 2 == 0)


def is_never(region):
    check_region(region)
    form, tree = region
    return first_angle(form, tree) is None


def is_always(region):
    check_region(region)
    form, tree = region
    return first_angle(form, other_tree(tree)) is None


def angle_outside(region, other):
    """An angle in the first region that is not in the other one, None if there is none."""
    return first_angle(region[0], both_trees(region[1], other_tree(other[1])))


def lies_within(region, other):
    check_two_regions(region, other)
    return angle_outside(region, other) is None


def some_parting_angle(region, other):
    angle = angle_outside(region, other)
    if angle is None:
        return angle_outside(other, region)
    return angle


def is_same_region(region, other):
    check_two_regions(region, other)
    return some_parting_angle(region, other) is None


def some_angle(region):
    check_region(region)
    form, tree = region
    return first_angle(form, tree)


def parting_angle(region, other):
    check_two_regions(region, other)
    return some_parting_angle(region, other)


def opposite_region(region):
    check_region(region)
    form, tree = region
    return (form, changed_tree(tree, lambda vector, level: (opposite_vector(vector), level)))


def turned_region(region, turn):
    check_region(region)
    check_turn(turn)
    form, tree = region
    factor = turn_factor(form, turn)
    return (form, changed_tree(tree, lambda vector, level: (turned_vector(form, vector, turn), level * factor)))
