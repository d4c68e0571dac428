import unittest
from decimal import Decimal
from fractions import Fraction
from random import Random

from steamlinks.errors import InvalidAngle, InvalidRatio, InvalidVector, Unlike
from steamlinks.places import is_same_place
from steamlinks.regions import arcs, holds, is_region
from steamlinks.riders import compare_distance, open_region, plate_kind, plate_kinds, plate_marks
from tests import oracle
from tests.samples import FORMS, GREAT, angles_up_to, some_valves

ENDS = ("head", "crank")
KINDS = ("shut", "whole", "twice", "early", "late", "inner")
VALVE = (1, (0, 4), (1, 0, 1, 0), 1)
FRONT, TOP, BACK, BOTTOM = (1, 0, 1, 0), (1, -1, 0, 0), (1, 0, -1, 0), (1, 1, 0, 0)


def exchanged(valve):
    """The crank end of this one does half a turn on what the head end of the first one does."""
    form, vector, laps, port = valve
    return (form, vector, laps[2:] + laps[:2], port)


def x_at(valve, end, place):
    """How far the valve stands open to steam beyond its lap."""
    along = oracle.along(valve[0], place, valve[1])
    return along - valve[2][0] if end == "head" else -along - valve[2][2]


def y_at(valve, rider, end, place):
    """The y of point 22, - y for the crank end."""
    gap = (rider[0] - valve[1][0], rider[1] - valve[1][1])
    along = oracle.along(valve[0], place, gap)
    return along if end == "head" else -along


def some_riders(many, seed, most=4):
    chance = Random(seed)
    found = []
    for valve in some_valves(many, seed, most):
        rider = (chance.randint(-most, most), chance.randint(-most, most))
        if chance.random() < 0.1:
            rider = valve[1]
        found.append((valve, rider, chance.choice(ENDS)))
    return found


def main_kind(valve, end):
    """nothing, all, or the main arc, by the square of the lap."""
    lap = valve[2][0 if end == "head" else 2]
    size = oracle.norm(valve[0], valve[1])
    if lap >= 0 and lap * lap >= size:
        return "nothing"
    if lap < 0 and lap * lap > size:
        return "all"
    return "arc"


def main_arcs(valve, end):
    form, vector, laps, _ = valve
    if end == "head":
        return arcs((form, ("side", vector, laps[0])))
    return arcs((form, ("side", (-vector[0], -vector[1]), laps[2])))


def due_kind(valve, rider, end, ratio):
    """Straight from point 22."""
    found, main = arcs(open_region(valve, rider, end, ratio)), main_arcs(valve, end)
    if found == ():
        return "shut"
    if len(found) == len(main) == 1 and [
        found[0][0] is None, found[0][0] is not None and main[0][0] is not None and is_same_place(found[0][0], main[0][0]),
        found[0][2] is not None and main[0][2] is not None and is_same_place(found[0][2], main[0][2]),
    ] in ([True, False, False], [False, True, True]):
        return "whole"
    if len(found) == 2:
        return "twice"
    if main[0][0] is None:
        return "inner"
    if is_same_place(found[0][0], main[0][0]):
        return "early"
    return "late" if is_same_place(found[0][2], main[0][2]) else "inner"


def ratio_near(number):
    """A ratio close to a Decimal."""
    told = Fraction(number).limit_denominator(10 ** 20)
    return (told.numerator, told.denominator)


class OpenRegion(unittest.TestCase):
    def test_open_where_told(self):
        chance = Random(41)
        angles = {form: angles_up_to(form, 2) for form in FORMS}
        for valve, rider, end in some_riders(60, 41):
            for ratio in ((0, 1), (1, 2), (-3, 1), (5, 3)):
                region = open_region(valve, rider, end, ratio)
                self.assertTrue(is_region(region) and region[0] == valve[0])
                for angle in chance.sample(angles[valve[0]], 12):
                    place = oracle.arrow(angle)
                    due = oracle.sign(x_at(valve, end, place)) > 0 > oracle.sign(y_at(valve, rider, end, place) * ratio[1] - ratio[0])
                    self.assertIs(oracle.tree_holds(region[0], region[1], place), due, (valve, rider, end, ratio, angle))

    def test_at_the_edges(self):
        # With the rider (0, 8) y is 4 at the top: neither 4 nor the lap itself is open.
        for end, place in (("head", TOP), ("crank", BOTTOM)):
            for ratio, due in (((4, 1), False), ((41, 10), True), ((3, 1), False), ((5, 1), True)):
                region = open_region(valve=VALVE, rider=(0, 8), end=end, ratio=ratio)
                self.assertIs(holds(region, place), due)
            self.assertIs(holds(open_region(VALVE, (0, 8), end, (4 * GREAT + 1, GREAT)), place), True)
            self.assertIs(holds(open_region((1, (0, 4), (4, 0, 4, 0), 1), (0, 8), end, (5, 1)), place), False)
        self.assertEqual(arcs(open_region((1, (0, 4), (4, 0, 4, 0), 1), (0, 8), "head", (100, 1))), ())


class PlateKind(unittest.TestCase):
    def test_all_kinds_at_both_ends(self):
        wide = (1, (0, 4), (-5, 0, 1, 0), 1)
        hole = (1, (0, 4), (-4, 0, 1, 0), 1)
        for valve, rider, ratio, due in (
            (VALVE, (0, 8), (4, 1), "twice"), (VALVE, (0, 8), (5, 1), "whole"), (VALVE, (0, 8), (1, 1), "shut"), (VALVE, (0, 8), (0, 1), "shut"),
            (VALVE, (-4, 4), (0, 1), "early"), (VALVE, (4, 4), (0, 1), "late"), (VALVE, (0, 0), (-2, 1), "inner"), (VALVE, (0, 0), (-4, 1), "shut"),
            (VALVE, (0, 0), (-1, 1), "whole"), (VALVE, (0, 4), (1, 1), "whole"), (VALVE, (0, 4), (0, 1), "shut"), (VALVE, (0, 4), (-1, 1), "shut"),
            (wide, (0, 0), (0, 1), "inner"), (wide, (0, 0), (4, 1), "inner"), (wide, (0, 0), (5, 1), "whole"), (wide, (0, 0), (-4, 1), "shut"),
            (wide, (0, 4), (1, GREAT), "whole"), (wide, (0, 4), (0, 1), "shut"),
            # The main arc is all but the bottom, where y is 4 with F = (0, 0).
            (hole, (0, 0), (4, 1), "whole"), (hole, (0, 0), (3, 1), "inner"), (hole, (0, 0), (5, 1), "whole"), (hole, (0, 8), (0, 1), "twice"),
            (hole, (0, 8), (-4, 1), "shut"), (hole, (0, 8), (4, 1), "twice"), (hole, (0, 8), (5, 1), "whole"), (hole, (4, 4), (0, 1), "late"),
            (hole, (-4, 4), (0, 1), "early"), (hole, (4, 4), (4, 1), "twice"), (hole, (3, 8), (0, 1), "twice"),
            ((1, (0, 4), (4, 0, 1, 0), 1), (0, 0), (5, 1), "shut"), ((1, (0, 0), (0, 0, 1, 0), 1), (3, 0), (9, 1), "shut"),
            ((1, (0, 0), (-1, 0, 1, 0), 1), (3, 0), (1, 1), "inner"), ((1, (0, 0), (-1, 0, 1, 0), 1), (3, 0), (3, 1), "inner"),
            # An arc of more than half a turn holds the ways of G and of - G.
            ((1, (0, 4), (-3, 0, 0, 0), 1), (4, 4), (-3, 1), "inner"), ((1, (0, 4), (-3, 0, 0, 0), 1), (4, 4), (-1, 1), "late"),
            ((1, (0, 4), (-3, 0, 0, 0), 1), (-4, 4), (-1, 1), "early"), ((1, (0, 4), (-3, 0, 0, 0), 1), (4, 4), (3, 1), "twice"),
        ):
            self.assertEqual(plate_kind(valve, rider, "head", ratio), due, (valve, rider, ratio))
            self.assertEqual(plate_kind(valve=exchanged(valve), rider=rider, end="crank", ratio=ratio), due, (valve, rider, ratio))

    def test_straight_from_the_arcs(self):
        seen = set()
        for valve, rider, end in some_riders(150, 42):
            for ratio in ((0, 1), (1, 2), (-2, 1), (3, 1), (4, 1), (-7, 2)):
                kind = plate_kind(valve, rider, end, ratio)
                self.assertEqual(kind, due_kind(valve, rider, end, ratio), (valve, rider, end, ratio))
                seen.add((kind, end))
        self.assertEqual(seen, {(kind, end) for kind in KINDS for end in ENDS})


class PlateMarks(unittest.TestCase):
    def due_values(self, valve, rider, end):
        """The values of point 23, ascending, each once."""
        form, vector = valve[:2]
        gap = (rider[0] - vector[0], rider[1] - vector[1])
        if gap == (0, 0):
            return [Decimal(0)]
        values = []
        if main_kind(valve, end) == "arc":
            arc = main_arcs(valve, end)[0]
            values += [y_at(valve, rider, end, oracle.arrow(arc[index])) for index in (0, 2)]
        for way in (gap, (-gap[0], -gap[1])):
            place = oracle.way_arrow(form, way)
            if oracle.sign(x_at(valve, end, place)) > 0:
                values.append(y_at(valve, rider, end, place))
        values = sorted(values)
        return [value for index, value in enumerate(values) if index == 0 or oracle.sign(value - values[index - 1]) != 0]

    def test_values(self):
        for valve, rider, end in some_riders(200, 43):
            marks = plate_marks(valve, rider, end)
            due = self.due_values(valve, rider, end)
            found = [y_at(valve, rider, end, oracle.arrow(mark)) for mark in marks]
            self.assertEqual(len(found), len(due), (valve, rider, end))
            for value, other in zip(found, due):
                self.assertEqual(oracle.sign(value - other), 0, (valve, rider, end))

    def test_told(self):
        self.assertEqual(plate_marks(VALVE, (0, 4), "head"), (FRONT[:1] + (0, 1, 0),))
        self.assertEqual(plate_marks((1, (0, 4), (9, 0, 1, 0), 1), (0, 4), "head"), ((1, 0, 1, 0),))
        self.assertEqual(plate_marks((1, (0, 4), (9, 0, 1, 0), 1), (0, 5), "head"), ())
        self.assertEqual(plate_kinds((1, (0, 4), (9, 0, 1, 0), 1), (0, 5), "head"), ("shut",))
        marks = plate_marks(valve=VALVE, rider=(0, 8), end="head")
        self.assertEqual(len(marks), 2)
        self.assertTrue(is_same_place(marks[1], TOP))
        # Both ends have the value 1.
        self.assertEqual([compare_distance(VALVE, (0, 8), "head", mark, (1, 1)) for mark in marks], [0, 1])

    def test_kinds_between_the_marks(self):
        most = set()
        for valve, rider, end in some_riders(120, 44):
            values, kinds = self.due_values(valve, rider, end), plate_kinds(valve, rider, end)
            self.assertEqual(len(kinds), len(values) + 1)
            most.add(len(values))
            ends = [Decimal(-20)] + values + [Decimal(20)]
            for kind, low, high in zip(kinds, ends, ends[1:]):
                for part in (Decimal(10) ** -12, Decimal("0.3"), Decimal("0.5"), Decimal("0.9"), 1 - Decimal(10) ** -12):
                    ratio = ratio_near(low + (high - low) * part)
                    self.assertEqual(plate_kind(valve, rider, end, ratio), kind, (valve, rider, end, ratio))
        self.assertEqual(most, {0, 1, 2, 3, 4})

    def test_kinds_told(self):
        for valve, rider, due in (
            (VALVE, (-4, 4), ("shut", "early", "whole")), (VALVE, (4, 4), ("shut", "late", "whole")), (VALVE, (0, 8), ("shut", "twice", "whole")),
            (VALVE, (0, 4), ("shut", "whole")), (VALVE, (0, 0), ("shut", "inner", "whole")), ((1, (0, 4), (-5, 0, 1, 0), 1), (0, 0), ("shut", "inner", "whole")),
            ((1, (0, 4), (4, 0, 4, 0), 1), (0, 0), ("shut",)), ((1, (0, 4), (-4, 0, 4, 0), 1), (0, 8), ("shut", "twice", "whole")),
            ((1, (0, 4), (-3, 0, 0, 0), 1), (4, 4), ("shut", "inner", "late", "twice", "whole")),
            ((1, (0, 4), (-3, 0, 0, 0), 1), (-4, 4), ("shut", "inner", "early", "twice", "whole")),
        ):
            self.assertEqual(plate_kinds(valve, rider, "head"), due, (valve, rider))
            self.assertEqual(plate_kinds(valve=exchanged(valve), rider=rider, end="crank"), due)

    def test_marks_that_hardly_differ(self):
        # The ends of the main arc have the values -1 / GREAT or so and 1 / GREAT or so.
        valve = (1, (0, GREAT), (1, 0, 1, 0), 1)
        for rider in ((1, GREAT), (0, GREAT + 1), (1, GREAT - 1)):
            for end in ENDS:
                marks, kinds = plate_marks(valve, rider, end), plate_kinds(valve, rider, end)
                self.assertEqual(len(kinds), len(marks) + 1)
                self.assertEqual([kinds[0], kinds[-1]], ["shut", "whole"])
        self.assertEqual(plate_kinds(valve, (0, GREAT + 1), "head"), ("shut", "twice", "whole"))
        self.assertEqual(plate_kind(valve, (0, GREAT + 1), "head", (1, GREAT)), "shut")
        self.assertEqual(plate_kind(valve, (0, GREAT + 1), "head", (2, GREAT + 1)), "twice")


class CompareDistance(unittest.TestCase):
    def test_told(self):
        for angle, ratio, due in (
            (TOP, (4, 1), 0), (TOP, (3, 1), 1), (TOP, (5, 1), -1), (FRONT, (0, 1), 0), (BOTTOM, (-4, 1), 0), (BOTTOM, (0, 1), -1),
            (TOP, (4 * GREAT + 1, GREAT), -1), (TOP, (4 * GREAT - 1, GREAT), 1), ((1, 0, 2, 1), (2, 1), 0), ((1, 2, 2, 1), (1, 1), -1),
        ):
            self.assertEqual(compare_distance(VALVE, (0, 8), "head", angle, ratio), due, (angle, ratio))
            self.assertEqual(compare_distance(valve=VALVE, rider=(0, 8), end="crank", angle=angle, ratio=(-ratio[0], ratio[1])), -due)

    def test_against_decimals(self):
        chance = Random(45)
        angles = {form: angles_up_to(form, 2) for form in FORMS}
        for valve, rider, end in some_riders(150, 45):
            for angle in chance.sample(angles[valve[0]], 8):
                for ratio in ((0, 1), (1, 2), (-3, 1), (2, 1)):
                    due = oracle.sign(y_at(valve, rider, end, oracle.arrow(angle)) * ratio[1] - ratio[0])
                    self.assertEqual(compare_distance(valve, rider, end, angle, ratio), due, (valve, rider, end, angle, ratio))

    def test_refused(self):
        for rider, angle, ratio, error, given in (
            ([0, 8], (2, 0, 1, 0), (2, 4), InvalidVector, [0, 8]), ((0, 8), (1, 0, 0, 0), (2, 4), InvalidAngle, (1, 0, 0, 0)),
            ((0, 8), (2, 0, 1, 0), (2, 4), InvalidRatio, (2, 4)), ((0, 8), (2, 0, 1, 0), (1, 4), Unlike, (2, 0, 1, 0)),
        ):
            with self.assertRaises(error) as told:
                compare_distance(VALVE, rider, "head", angle, ratio)
            self.assertEqual(told.exception.given, given)


if __name__ == "__main__":
    unittest.main()
