"""Trees of regions: what they are, their sides and cuts, and places in them.

But for `is_tree` nothing is checked here.
"""

from steamlinks.angles import angle_on_way, is_vector, lowering_angle, rising_angle
from steamlinks.basics import is_whole, norm, reduced, scaled_vector, sign
from steamlinks.circle import place_sign, places_in_order, some_way_between

MOST_SIDES = 24
MOST_PARTS = 8
MOST_DEEP = 6


def count_sides(tree, deep):
    """How many sides a tree has that is at most so deep, None if it is no such tree."""
    if deep == 0 or not isinstance(tree, tuple) or len(tree) == 0 or not isinstance(tree[0], str):
        return None
    if tree[0] == "all" and len(tree) == 1:
        return 0
    if tree[0] == "side" and len(tree) == 3 and is_vector(tree[1]) and is_whole(tree[2]):
        return 1
    if tree[0] == "not" and len(tree) == 2:
        return count_sides(tree[1], deep - 1)
    if tree[0] in ("and", "or") and len(tree) == 2:
        return count_sides_of_parts(tree[1], deep - 1)
    return None


def count_sides_of_parts(parts, deep):
    if not isinstance(parts, tuple) or not 1 <= len(parts) <= MOST_PARTS:
        return None
    many = 0
    for part in parts:
        found = count_sides(part, deep)
        if found is None or many + found > MOST_SIDES:
            return None
        many += found
    return many


def is_tree(value):
    return count_sides(value, MOST_DEEP) is not None


def both_trees(tree, other):
    return ("and", (tree, other))


def other_tree(tree):
    return ("not", tree)


def tree_holds(tree, angle):
    word = tree[0]
    if word == "all":
        return True
    if word == "side":
        return place_sign(angle, tree[1], tree[2]) > 0
    if word == "not":
        return not tree_holds(tree[1], angle)
    # One part that holds settles an "or", one that does not an "and".
    settling = word == "or"
    for part in tree[1]:
        if tree_holds(part, angle) == settling:
            return settling
    return not settling


def sides_of(tree):
    """The pairs of the vectors and levels of all sides."""
    if tree[0] == "all":
        return []
    if tree[0] == "side":
        return [(tree[1], tree[2])]
    if tree[0] == "not":
        return sides_of(tree[1])
    sides = []
    for part in tree[1]:
        sides.extend(sides_of(part))
    return sides


def side_cuts(form, vector, level):
    """The edges and the touch of a side."""
    reach = norm(form, vector) - level * level
    if reach > 0:
        return [rising_angle(form, vector, level), lowering_angle(form, vector, level)]
    # With both 0 the vector is (0, 0), which has no way.
    if reach == 0 and level != 0:
        return [angle_on_way(form, reduced(scaled_vector(vector, sign(level))))]
    return []


def tree_cuts(form, tree):
    cuts = []
    for vector, level in sides_of(tree):
        cuts.extend(side_cuts(form, vector, level))
    return places_in_order(cuts)


def angle_behind(form, cuts, index):
    """An angle in the open arc behind a cut, ahead of the next one."""
    return angle_on_way(form, some_way_between(cuts[index], cuts[(index + 1) % len(cuts)]))


def first_angle(form, tree):
    """An angle in the tree, None if there is none."""
    cuts = tree_cuts(form, tree)
    for cut in cuts:
        if tree_holds(tree, cut):
            return cut
    for index in range(len(cuts)):
        angle = angle_behind(form, cuts, index)
        if tree_holds(tree, angle):
            return angle
    front = angle_on_way(form, (1, 0))
    if not cuts and tree_holds(tree, front):
        return front
    return None


def samples_round(form, marks):
    """Each mark, and behind it an angle in the open arc to the next one; any angle if there are no marks."""
    if not marks:
        return [angle_on_way(form, (1, 0))]
    samples = []
    for index in range(len(marks)):
        samples.append(marks[index])
        samples.append(angle_behind(form, marks, index))
    return samples


def arcs_from(marks, truths):
    """The arcs that hold where the truths are True: one for each of the samples round the marks."""
    if all(truths):
        return ((None, True, None, True),)
    begins = [index for index in range(len(truths)) if truths[index] and not truths[index - 1]]
    return tuple([arc_from(marks, truths, begin) for begin in begins])


def arc_from(marks, truths, begin):
    """The arc that begins at a mark, with an even index in the truths, or in the open arc behind it."""
    end = begin
    while truths[(end + 1) % len(truths)]:
        end += 1
    # An open arc ends at the mark that follows it.
    last = marks[(end + 1) // 2 % len(marks)]
    return (marks[begin // 2], begin % 2 == 0, last, end % 2 == 0)


def tree_arcs(form, tree):
    cuts = tree_cuts(form, tree)
    return arcs_from(cuts, [tree_holds(tree, sample) for sample in samples_round(form, cuts)])


def changed_tree(tree, change):
    """The same tree with other sides: change tells the vector and the level of each."""
    word = tree[0]
    if word == "all":
        return tree
    if word == "side":
        return (word,) + change(tree[1], tree[2])
    if word == "not":
        return (word, changed_tree(tree[1], change))
    return (word, tuple([changed_tree(part, change) for part in tree[1]]))
