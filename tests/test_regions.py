import unittest

from steamlinks.angles import falling_angle, is_angle, way_angle
from steamlinks.places import is_before, is_same_place, mirrored_angle, opposite_angle, turned, turned_angle, way_between
from steamlinks.regions import arcs, cuts, holds, is_always, is_never, is_region, is_same_region, lies_within
from steamlinks.regions import opposite_region, parting_angle, some_angle, turned_region
from tests import oracle
from tests.samples import FORMS, GREAT, TURNS, angles_up_to, on_way, some_trees, vectors_up_to, ways_up_to

ALL = ("all",)
NONE = ("not", ALL)
RIGHT, UP, LEFT, DOWN = [on_way(1, way) for way in ((1, 0), (0, 1), (-1, 0), (0, -1))]
# Crossed, touched from above and below 0, out of reach on both sides, of no vector.
CROSSED = ("side", (3, 4), 3)
TOUCHED = ("side", (3, 4), 5)
TOUCHED_BELOW = ("side", (3, 4), -5)
BEYOND = ("side", (3, 4), 6)
BEYOND_BELOW = ("side", (3, 4), -6)
TOP = ("side", (0, 1), 0)


def deep_tree(deep, tree=CROSSED):
    for _ in range(deep - 1):
        tree = ("not", tree)
    return tree


def many_sides(many):
    sides = tuple(("side", (1, k), 0) for k in range(many))
    return ("or", tuple(("and", sides[at:at + 8]) for at in range(0, many, 8)))


def sides_within(tree):
    if tree[0] == "side":
        return [tree[1:]]
    if tree[0] == "all":
        return []
    return [side for part in (tree[1:] if tree[0] == "not" else tree[1]) for side in sides_within(part)]


def due_cuts(form, tree):
    """All edges and touches, told as point 10 and the interface tell them, several at one place among them."""
    found = []
    for vector, level in sides_within(tree):
        size = oracle.norm(form, vector)
        if level * level < size:
            found += [falling_angle(form, (-vector[0], -vector[1]), -level), falling_angle(form, vector, level)]
        elif level * level == size and vector != (0, 0):
            way = vector if level > 0 else (-vector[0], -vector[1])
            found.append(on_way(form, lowest(way)))
    return found


def lowest(way):
    factor = max(k for k in range(1, 99) if way[0] % k == 0 and way[1] % k == 0)
    return (way[0] // factor, way[1] // factor)


def cells(form, told):
    """The cuts and a place in each open arc between neighbours."""
    if not told:
        return [way_angle(form, (1, 0))]
    found = list(told)
    for index, cut in enumerate(told):
        found.append(way_angle(form, way_between(cut, told[(index + 1) % len(told)])))
    return found


class IsRegion(unittest.TestCase):
    def test_trees(self):
        for tree in (
            ALL, NONE, CROSSED, TOUCHED, BEYOND, ("side", (0, 0), 0), ("side", (0, 0), -3), ("side", (2, 4), 6),
            ("and", (ALL,)), ("or", (ALL, CROSSED)), ("and", (CROSSED,) * 8), ("or", (ALL,) * 8), ("not", ("not", ALL)),
            deep_tree(6), deep_tree(6, ALL), many_sides(24), ("side", (GREAT, -GREAT), GREAT),
        ):
            for form in FORMS:
                self.assertIs(is_region((form, tree)), True, tree)

    def test_no_trees(self):
        for tree in (
            None, 1, "all", (), (ALL,), ("all", ()), ["all"], ("none",), ("All",), ("all", ALL), ("not",), ("not", (ALL,)),
            ("not", ALL, ALL), ("and",), ("and", ()), ("or", ()), ("and", [ALL]), ("and", ALL), ("and", ALL, ALL),
            ("and", (ALL,) * 9), ("or", (CROSSED,) * 9), ("or", (ALL, None)), ("and", (ALL, ["all"])), ("side",),
            ("side", (3, 4)), ("side", (3, 4), 3, 3), ("side", [3, 4], 3), ("side", (3, 4, 5), 3), ("side", (3,), 3),
            ("side", (3, True), 3), ("side", (3, 4), True), ("side", (3, 4), None), ("side", 3, 4), (b"all",), (1, 2, 3),
            ["not", ALL], ["side", (3, 4), 3], {"all": 1}, ("xor", (ALL, ALL)), ("side", (3, 4), "3"), (["all"],),
            deep_tree(7), deep_tree(7, ALL), deep_tree(13), many_sides(25), ("and", (many_sides(24), CROSSED)),
            ("not", ("and", (many_sides(23), ("not", ("or", (CROSSED, TOP)))))),
        ):
            self.assertIs(is_region((1, tree)), False, tree)

    def test_all_is_no_side_and_takes_none_away(self):
        self.assertIs(is_region((1, ("and", (many_sides(24),) + (ALL,) * 7))), True)
        self.assertIs(is_region((1, ("and", (ALL, many_sides(25))))), False)
        self.assertIs(is_region((1, ("and", (ALL, ("not", ALL), many_sides(24), CROSSED)))), False)

    def test_no_pairs_and_no_forms(self):
        for value in (
            None, (), (1,), ALL, (1, ALL, ALL), [1, ALL], (0, ALL), (4, ALL), (True, ALL), ("1", ALL), (ALL, 1), "1a",
            (None, ALL), {1: ALL}, ((1, ALL),),
        ):
            self.assertIs(is_region(value), False, value)

    def test_seven_deep_in_one_part_only(self):
        self.assertIs(is_region((1, ("and", (ALL, deep_tree(5))))), True)
        self.assertIs(is_region((1, ("and", (ALL, deep_tree(6))))), False)
        self.assertIs(is_region((1, ("or", (deep_tree(6), ALL)))), False)


class Holds(unittest.TestCase):
    def test_sides(self):
        for form in FORMS:
            for angle in angles_up_to(form, 1) + [on_way(form, way) for way in ways_up_to(2)]:
                place = oracle.arrow(angle)
                for vector in vectors_up_to(2):
                    for level in range(-3, 4):
                        due = oracle.side_sign(form, place, vector, level) > 0
                        self.assertIs(holds((form, ("side", vector, level)), angle), due)

    def test_trees(self):
        for form in FORMS:
            places = [(angle, oracle.arrow(angle)) for angle in angles_up_to(form, 1)]
            for tree in some_trees(60, 5, deep=5):
                for angle, place in places:
                    self.assertIs(holds((form, tree), angle), oracle.tree_holds(form, tree, place), (tree, angle))

    def test_words(self):
        for first in (ALL, NONE):
            for second in (ALL, NONE):
                for third in (ALL, NONE):
                    told = (first, second, third)
                    self.assertIs(holds((1, ("and", told)), RIGHT), NONE not in told)
                    self.assertIs(holds((1, ("or", told)), RIGHT), ALL in told)
        self.assertIs(holds((1, ("and", (NONE,))), RIGHT), False)
        self.assertIs(holds((1, ("or", (NONE,))), RIGHT), False)
        self.assertIs(holds((1, ("and", (ALL,) * 7 + (NONE,))), RIGHT), False)
        self.assertIs(holds((1, ("or", (NONE,) * 7 + (ALL,))), RIGHT), True)

    def test_at_an_edge_at_a_touch_and_beside(self):
        self.assertIs(holds((1, CROSSED), RIGHT), False)
        self.assertIs(holds((1, CROSSED), way_angle(1, (GREAT, 1))), True)
        self.assertIs(holds((1, CROSSED), way_angle(1, (GREAT, -1))), False)
        self.assertIs(holds((1, CROSSED), way_angle(1, (-7, 24))), False)
        self.assertIs(holds((1, TOUCHED), way_angle(1, (3, 4))), False)
        self.assertIs(holds((1, ("not", TOUCHED)), way_angle(1, (3, 4))), True)
        self.assertIs(holds((1, TOUCHED_BELOW), way_angle(1, (-3, -4))), False)
        self.assertIs(holds((1, TOUCHED_BELOW), way_angle(1, (-3 * GREAT, -4 * GREAT - 1))), True)
        self.assertIs(holds((1, TOUCHED_BELOW), way_angle(1, (3, 4))), True)

    def test_deep_and_with_many_sides(self):
        self.assertIs(holds((1, deep_tree(6)), UP), False)
        self.assertIs(holds((1, deep_tree(5)), UP), True)
        self.assertIs(holds((1, many_sides(24)), RIGHT), True)
        self.assertIs(holds((1, many_sides(24)), LEFT), False)
        self.assertIs(holds((1, many_sides(24)), on_way(1, (-9, 1))), True)


class Cuts(unittest.TestCase):
    def test_each_kind_of_side(self):
        self.assertEqual(cuts((1, CROSSED)), ((1, 3, 4, 3), (1, -3, -4, -3)))
        self.assertEqual(cuts((1, TOUCHED)), ((1, -4, 3, 0),))
        self.assertEqual(cuts((1, TOUCHED_BELOW)), ((1, 4, -3, 0),))
        self.assertEqual(cuts((1, ("side", (6, 8), 10))), ((1, -4, 3, 0),))
        self.assertEqual(cuts((3, ("side", (2, 2), -4))), ((3, 3, -1, 0),))
        for tree in (BEYOND, BEYOND_BELOW, ("side", (0, 0), 0), ("side", (0, 0), 1), ("side", (0, 0), -1), ALL, NONE):
            self.assertEqual(cuts((1, tree)), ())

    def test_edges_are_told_reduced_and_in_the_turn_order(self):
        self.assertEqual(cuts((1, ("side", (6, -8), 2))), ((1, -3, 4, -1), (1, 3, -4, 1)))
        self.assertEqual(cuts((2, ("side", (0, -4), 0))), ((2, 0, 1, 0), (2, 0, -1, 0)))

    def test_whether_or_not_the_region_changes_there(self):
        self.assertEqual(cuts((1, ("or", (TOP, ("not", TOP))))), ((1, 0, 1, 0), (1, 0, -1, 0)))
        self.assertEqual(cuts((1, ("and", (NONE, CROSSED)))), ((1, 3, 4, 3), (1, -3, -4, -3)))

    def test_each_place_once(self):
        told = cuts((1, ("and", (CROSSED, TOP, CROSSED, ("side", (6, 8), 6)))))
        self.assertEqual(len(told), 3)
        self.assertTrue(is_same_place(told[0], RIGHT))
        self.assertEqual(told[1], (1, -3, -4, -3))
        self.assertEqual(told[2], (1, 0, -1, 0))

    def test_against_all_sides(self):
        for form in FORMS:
            for tree in some_trees(80, 7, deep=4):
                told, due = cuts((form, tree)), due_cuts(form, tree)
                self.assertIsInstance(told, tuple)
                for cut in told:
                    self.assertIn(cut, due)
                for first, second in zip(told, told[1:]):
                    self.assertTrue(is_before(first, second))
                for cut in due:
                    self.assertEqual(sum(is_same_place(cut, one) for one in told), 1)

    def test_hardly_parted(self):
        tree = ("or", (("side", (0, GREAT), GREAT - 1), ("side", (0, GREAT), GREAT - 3), ("side", (1, 0), 0)))
        told = cuts((1, tree))
        self.assertEqual(told, (
            (1, 0, GREAT, GREAT - 3), (1, 0, GREAT, GREAT - 1), (1, -1, 0, 0), (1, 0, -GREAT, 1 - GREAT),
            (1, 0, -GREAT, 3 - GREAT), (1, 1, 0, 0),
        ))


class Arcs(unittest.TestCase):
    def test_nothing_and_all(self):
        everywhere = ((None, True, None, True),)
        for tree in (ALL, BEYOND_BELOW, ("side", (0, 0), -1), ("or", (TOP, ("not", TOP))), ("not", TOUCHED), ("not", NONE)):
            self.assertEqual(arcs((1, tree)), everywhere, tree)
        for tree in (NONE, BEYOND, TOUCHED, ("side", (0, 0), 0), ("and", (TOP, ("not", TOP))), ("not", BEYOND_BELOW)):
            self.assertEqual(arcs((1, tree)), (), tree)

    def test_one_open_arc(self):
        self.assertEqual(arcs((1, CROSSED)), (((1, 3, 4, 3), False, (1, -3, -4, -3), False),))

    def test_ends_that_belong(self):
        self.assertEqual(arcs((1, ("not", CROSSED))), (((1, -3, -4, -3), True, (1, 3, 4, 3), True),))
        quarter = ("and", (TOP, ("not", ("side", (-1, 0), 0))))
        self.assertEqual(arcs((1, quarter)), (((1, 0, 1, 0), False, (1, -1, 0, 0), True),))
        quarter = ("and", (("not", ("side", (0, -1), 0)), ("side", (1, 0), 0)))
        self.assertEqual(arcs((1, quarter))[0][1::2], (True, False))

    def test_a_single_place(self):
        touch = (1, -4, 3, 0)
        tree = ("not", ("side", (-3, -4), -5))
        self.assertEqual(arcs((1, tree)), ((touch, True, touch, True),))
        corner = ("and", (("not", ("side", (0, -1), 0)), ("not", ("side", (0, 1), 0)), ("side", (1, 0), 0)))
        ((begin, has_begin, end, has_end),) = arcs((1, corner))
        self.assertTrue(is_same_place(begin, RIGHT) and is_same_place(end, RIGHT) and has_begin and has_end)

    def test_two_single_places(self):
        told = arcs((1, ("and", (("not", TOP), ("not", ("side", (0, -1), 0))))))
        self.assertEqual(len(told), 2)
        for (begin, has_begin, end, has_end), place in zip(told, (RIGHT, LEFT)):
            self.assertTrue(is_same_place(begin, place) and is_same_place(end, place) and has_begin and has_end)

    def test_all_but_one_place(self):
        touch = (1, 4, -3, 0)
        self.assertEqual(arcs((1, TOUCHED_BELOW)), ((touch, False, touch, False),))
        self.assertEqual(arcs((1, ("or", (TOUCHED_BELOW, CROSSED)))), ((touch, False, touch, False),))

    def test_past_the_beginning(self):
        self.assertEqual(arcs((1, ("side", (1, 0), 0))), (((1, 1, 0, 0), False, (1, -1, 0, 0), False),))
        told = arcs((1, ("or", (("side", (1, 0), 0), ("side", (-4, 3), 4)))))
        self.assertEqual([arc[::2] for arc in told], [
            ((1, -4, 3, 4), (1, 4, -3, -4)), ((1, 1, 0, 0), (1, -1, 0, 0)),
        ])
        # It goes past a cut at (1, 0) at which nothing changes.
        told = arcs((1, ("or", (("side", (1, 0), 0), ("and", (TOP, ("side", (1, 0), 0)))))))
        self.assertEqual(told, (((1, 1, 0, 0), False, (1, -1, 0, 0), False),))

    def test_neighbours_that_only_touch(self):
        told = arcs((1, ("or", (TOP, ("side", (0, -1), 0)))))
        self.assertEqual([arc[1::2] for arc in told], [(False, False), (False, False)])
        self.assertTrue(is_same_place(told[0][0], RIGHT) and is_same_place(told[0][2], LEFT))
        self.assertTrue(is_same_place(told[1][0], LEFT) and is_same_place(told[1][2], RIGHT))

    def test_hardly_there(self):
        tree = ("and", (("side", (0, GREAT), GREAT - 3), ("not", ("side", (0, GREAT), GREAT - 1)), ("side", (1, 0), 0)))
        self.assertEqual(arcs((1, tree)), (((1, 0, GREAT, GREAT - 3), False, (1, 0, GREAT, GREAT - 1), True),))

    def test_against_the_places(self):
        for form in FORMS:
            ways = [oracle.way_arrow(form, way) for way in ways_up_to(3)]
            for tree in some_trees(80, 11, deep=4):
                told = arcs((form, tree))
                self.assertIsInstance(told, tuple)
                places = ways + [oracle.arrow(angle) for angle in cells(form, cuts((form, tree)))]
                for place in places:
                    many = sum(oracle.in_arc(place, arc) for arc in told)
                    self.assertEqual(many, int(oracle.tree_holds(form, tree, place)), (form, tree))
                self.check_arcs(form, tree, told)

    def check_arcs(self, form, tree, told):
        """They begin and end at cuts, in the turn order, and are as long as they can be."""
        if told and told[0][0] is None:
            self.assertEqual(told, ((None, True, None, True),))
            return
        marks = cuts((form, tree))
        for arc in told:
            self.assertIn(arc[0], marks)
            self.assertIn(arc[2], marks)
            self.assertTrue(arc[1] in (True, False) and arc[3] in (True, False))
            self.assertIs(holds((form, tree), arc[0]), arc[1])
            self.assertIs(holds((form, tree), arc[2]), arc[3])
        for first, second in zip(told, told[1:]):
            self.assertTrue(is_before(first[0], second[0]))
        for first, second in zip(told, told[1:] + told[:1]):
            if is_same_place(first[2], second[0]):
                self.assertTrue(first[3] is second[1] is False or first == second)


class Whole(unittest.TestCase):
    """Empty, everywhere, within, the same: with the angles that are told."""

    def test_empty_and_everywhere(self):
        for tree, empty, everywhere in (
            (ALL, False, True), (NONE, True, False), (CROSSED, False, False), (TOUCHED, True, False),
            (TOUCHED_BELOW, False, False), (BEYOND, True, False), (BEYOND_BELOW, False, True),
            (("side", (0, 0), 0), True, False), (("side", (0, 0), -1), False, True), (("not", TOUCHED_BELOW), False, False),
            (("or", (TOP, ("not", TOP))), False, True), (("and", (TOP, ("not", TOP))), True, False),
            (("or", (TOP, ("side", (0, -1), 0))), False, False), (("and", (CROSSED, ("side", (-3, -4), -3))), True, False),
            (("or", (CROSSED, ("side", (-3, -4), -3))), False, False), (("and", (ALL, NONE)), True, False),
            (("or", (TOP, ("side", (0, -1), 0), ("not", ("side", (-1, 0), 0)))), False, False),
        ):
            for value in (tree, ("not", ("not", tree))):
                self.assertIs(is_never((1, value)), empty, tree)
                self.assertIs(is_always((1, value)), everywhere, tree)
                self.assertIs(some_angle((1, value)) is None, empty, tree)
                if not empty:
                    self.assertTrue(is_angle(some_angle((1, value))))
                    self.assertTrue(holds((1, value), some_angle((1, value))))

    def test_a_single_place_is_found(self):
        tree = ("not", ("side", (-3, -4), -5))
        self.assertTrue(is_same_place(some_angle((1, tree)), way_angle(1, (3, 4))))
        self.assertIs(is_never((1, tree)), False)
        self.assertIs(is_always((1, ("not", tree))), False)

    def test_a_hidden_arc_is_found(self):
        tree = ("and", (("side", (0, GREAT), GREAT - 3), ("side", (0, -GREAT), 1 - GREAT), ("side", (1, 0), 0)))
        self.assertIs(is_never((1, tree)), False)
        self.assertTrue(holds((1, tree), some_angle((1, tree))))
        self.assertIs(is_never((1, ("and", (tree, ("side", (-1, 0), 0))))), True)

    def test_within_and_the_same(self):
        half = ("not", ("side", (0, -1), 0))
        for tree, other, within, back in (
            (CROSSED, TOP, True, False), (TOP, half, True, False), (TOP, TOP, True, True), (NONE, CROSSED, True, False),
            (CROSSED, ALL, True, False), (NONE, TOUCHED, True, True), (ALL, TOUCHED_BELOW, False, True),
            (ALL, ("not", TOUCHED), True, True), (CROSSED, ("side", (6, 8), 6), True, True),
            (CROSSED, ("side", (6, 8), 7), False, True), (CROSSED, ("side", (4, 3), 3), False, False),
            (("and", (TOP, CROSSED)), CROSSED, True, True),
            (("or", (TOP, half)), ("not", ("and", (("side", (0, -1), 0),))), True, True),
        ):
            self.assertIs(lies_within((1, tree), (1, other)), within, (tree, other))
            self.assertIs(lies_within((1, other), (1, tree)), back, (tree, other))
            self.assertIs(is_same_region((1, tree), (1, other)), within and back)
            self.assertIs(is_same_region((1, other), (1, tree)), within and back)
            self.check_parting(1, tree, other, within and back)
            self.check_parting(1, other, tree, within and back)

    def check_parting(self, form, tree, other, is_same):
        angle = parting_angle((form, tree), (form, other))
        self.assertIs(angle is None, is_same)
        if angle is not None:
            self.assertTrue(is_angle(angle))
            self.assertNotEqual(holds((form, tree), angle), holds((form, other), angle))

    def test_parted_by_a_single_place(self):
        half = ("not", ("side", (0, -1), 0))
        less = ("and", (half, ("side", (-1, 0), -1)))
        self.assertTrue(is_same_place(parting_angle((1, half), (1, less)), RIGHT))
        self.assertIs(is_same_region((1, half), (1, less)), False)
        self.assertIs(lies_within((1, half), (1, less)), False)
        self.assertIs(lies_within((1, less), (1, half)), True)
        self.assertTrue(is_same_place(parting_angle((1, TOUCHED_BELOW), (1, ALL)), way_angle(1, (-3, -4))))

    def test_against_the_places(self):
        for form in FORMS:
            trees = some_trees(24, 13, deep=3, most=2)
            for tree in trees:
                self.check_whole(form, tree)
                for other in trees[::3]:
                    self.check_pair(form, tree, other)

    def check_whole(self, form, tree):
        truths = [oracle.tree_holds(form, tree, oracle.arrow(at)) for at in cells(form, cuts((form, tree)))]
        self.assertIs(is_never((form, tree)), not any(truths))
        self.assertIs(is_always((form, tree)), all(truths))
        angle = some_angle((form, tree))
        self.assertIs(angle is None, not any(truths))
        if angle is not None:
            self.assertTrue(is_angle(angle) and oracle.tree_holds(form, tree, oracle.arrow(angle)))

    def check_pair(self, form, tree, other):
        places = [oracle.arrow(angle) for angle in cells(form, cuts((form, ("and", (tree, other)))))]
        truths = [(oracle.tree_holds(form, tree, at), oracle.tree_holds(form, other, at)) for at in places]
        is_same = all(first == second for first, second in truths)
        self.assertIs(lies_within((form, tree), (form, other)), (True, False) not in truths)
        self.assertIs(is_same_region((form, tree), (form, other)), is_same)
        self.check_parting(form, tree, other, is_same)

    def test_the_greatest_trees(self):
        tree = many_sides(24)
        self.assertIs(is_same_region((1, tree), (1, ("not", ("not", tree)))), True)
        self.assertIs(lies_within((3, ("side", (1, 0), 0)), (3, tree)), False)
        self.assertIs(lies_within((3, ("and", (("side", (1, 0), 0), TOP))), (3, tree)), True)
        self.assertIs(is_never((1, deep_tree(6))), False)
        full = ALL
        for _ in range(5):
            full = ("and", (full,) * 8)
        self.assertIs(is_always((1, full)), True)


class MovedRegions(unittest.TestCase):
    TREE = ("or", (("and", (CROSSED, ("not", TOP))), ("side", (0, -2), 1), ALL))

    def test_opposite_as_a_tree(self):
        due = ("or", (("and", (("side", (-3, -4), 3), ("not", ("side", (0, -1), 0)))), ("side", (0, 2), 1), ALL))
        for form in FORMS:
            self.assertEqual(opposite_region((form, self.TREE)), (form, due))

    def test_turned_as_a_tree(self):
        self.assertEqual(turned_region((2, self.TREE), (1, 0)), (2, self.TREE))
        due = ("or", (("and", (("side", (-6, -8), 6), ("not", ("side", (0, -2), 0)))), ("side", (0, 4), 2), ALL))
        self.assertEqual(turned_region((2, self.TREE), (0, 1)), (2, due))
        due = ("or", (("and", (("side", (-8, 6), 6), ("not", ("side", (-2, 0), 0)))), ("side", (4, 0), 2), ALL))
        self.assertEqual(turned_region((1, self.TREE), (1, 1)), (1, due))
        self.assertEqual(turned_region((3, ("side", (1, 0), -1)), (2, -1)), (3, ("side", (1, -4), -7)))
        for turn in TURNS:
            for form in FORMS:
                vector = turned(form, (3, 4), turn)
                factor = turn[0] ** 2 + form * turn[1] ** 2
                self.assertEqual(turned_region((form, CROSSED), turn), (form, ("side", vector, 3 * factor)))

    def test_as_places(self):
        for form in FORMS:
            places = angles_up_to(form, 1)
            for tree in some_trees(20, 17, deep=4):
                opposite = opposite_region((form, tree))
                for turn in TURNS[:5]:
                    moved = turned_region((form, tree), turn)
                    self.assertTrue(is_region(moved))
                    for angle in places[::2]:
                        self.assertIs(holds(moved, turned_angle(angle, turn)), holds((form, tree), angle))
                for angle in places:
                    self.assertIs(holds(opposite, opposite_angle(angle)), holds((form, tree), angle))
                self.assertTrue(is_same_region(opposite, turned_region((form, tree), (0, 1))))

    def test_mirrored_places_of_a_side(self):
        for angle in angles_up_to(2, 2):
            for level in (-1, 0, 1):
                there = holds((2, ("side", (1, -2), level)), mirrored_angle(angle))
                self.assertIs(holds((2, ("side", (1, 2), level)), angle), there)


class ByName(unittest.TestCase):
    def test_regions(self):
        region, other = (1, CROSSED), (1, TOP)
        self.assertTrue(is_region(value=region))
        self.assertFalse(holds(angle=RIGHT, region=region))
        self.assertEqual(cuts(region=region), cuts(region))
        self.assertEqual(arcs(region=region), arcs(region))
        self.assertFalse(is_never(region=region) or is_always(region=region))
        self.assertTrue(lies_within(other=other, region=region))
        self.assertFalse(is_same_region(other=other, region=region))
        self.assertEqual(some_angle(region=region), some_angle(region))
        self.assertEqual(parting_angle(other=other, region=region), parting_angle(region, other))
        self.assertEqual(opposite_region(region=region), opposite_region(region))
        self.assertEqual(turned_region(turn=(1, 1), region=region), turned_region(region, (1, 1)))


if __name__ == "__main__":
    unittest.main()
