import unittest
from math import gcd

from steamlinks.angles import way_angle
from steamlinks.ports import compare_greatest, compare_opening, greatest_way, wide_region
from steamlinks.regions import holds, is_always, is_never, is_region, is_same_region
from tests import oracle
from tests.samples import FORMS, GREAT, angles_up_to, on_way, some_valves, ways_up_to

ENDS = ("head", "crank")
RATIOS = ((0, 1), (1, 1), (1, 2), (1, 3), (3, 4), (2, 5), (99, 100))
SLIDE = (1, (3, 4), (3, 0, 3, 0), 2)
FRONT, BACK, UP, DOWN = [way_angle(1, way) for way in ((1, 0), (-1, 0), (0, 1), (0, -1))]


def due_sign(share, ratio):
    return oracle.sign(share * ratio[1] - ratio[0])


class CompareOpening(unittest.TestCase):
    def test_below_at_and_above(self):
        # At (0, 1) the valve stands at 4, open by 4 - lap.
        for lap, port, signs in (
            (3, 2, {(1, 2): 0, (1, 3): 1, (2, 3): -1, (0, 1): 1, (1, 1): -1}),
            (4, 2, {(0, 1): 0, (1, 2): -1, (1, 1): -1}),
            (5, 2, {(0, 1): 0, (1, 100): -1, (1, 1): -1}),
            (2, 2, {(0, 1): 1, (99, 100): 1, (1, 1): 0}),
            (-9, 2, {(0, 1): 1, (99, 100): 1, (1, 1): 0}),
        ):
            for ratio, due in signs.items():
                self.assertEqual(compare_opening((1, (3, 4), (lap, 1, 9, 1), port), "head", UP, ratio), due)
                self.assertEqual(compare_opening((1, (3, 4), (9, 1, lap, 1), port), "crank", DOWN, ratio), due)

    def test_at_the_dead_centres(self):
        valve = (1, (3, 4), (1, 0, 2, 0), 4)
        self.assertEqual([compare_opening(valve, "head", FRONT, ratio) for ratio in ((1, 3), (1, 2), (2, 3))], [1, 0, -1])
        self.assertEqual([compare_opening(valve, "crank", BACK, ratio) for ratio in ((1, 5), (1, 4), (1, 3))], [1, 0, -1])
        self.assertEqual([compare_opening(valve, "head", BACK, ratio) for ratio in ((0, 1), (1, 9))], [0, -1])
        self.assertEqual([compare_opening(valve, "crank", FRONT, ratio) for ratio in ((0, 1), (1, 9))], [0, -1])

    def test_against_the_places(self):
        for valve in some_valves(40, 71):
            form = valve[0]
            for angle in angles_up_to(form, 1)[::2] + [on_way(form, way) for way in ways_up_to(2)]:
                for end in ENDS:
                    share = oracle.opening_share(valve, end, oracle.arrow(angle))
                    for ratio in RATIOS:
                        due = due_sign(share, ratio)
                        self.assertEqual(compare_opening(valve, end, angle, ratio), due, (valve, end, angle, ratio))

    def test_hardly_beside_a_ratio(self):
        valve = (1, (1, 0), (0, 0, 0, 0), 1)
        self.assertEqual(compare_opening(valve, "head", FRONT, (GREAT - 1, GREAT)), 1)
        self.assertEqual(compare_opening((1, (GREAT, 0), (1, 0, 0, 0), GREAT), "head", FRONT, (GREAT - 1, GREAT)), 0)
        self.assertEqual(compare_opening((1, (GREAT, 0), (3, 0, 0, 0), GREAT), "head", FRONT, (GREAT - 1, GREAT)), -1)


class CompareGreatest(unittest.TestCase):
    def test_against_the_greatest_opening(self):
        for valve in some_valves(150, 73):
            form, vector, _, _ = valve
            length = oracle.Decimal(oracle.norm(form, vector)).sqrt()
            for end in ENDS:
                lap = valve[2][0 if end == "head" else 2]
                share = min(max(length - lap, 0), oracle.Decimal(valve[3])) / valve[3]
                for ratio in RATIOS:
                    due = due_sign(share, ratio)
                    self.assertEqual(compare_greatest(valve, end, ratio), due, (valve, end, ratio))

    def test_below_at_and_above(self):
        for lap, signs in (
            (4, {(0, 1): 1, (1, 3): 1, (1, 2): 0, (2, 3): -1, (1, 1): -1}), (5, {(0, 1): 0, (1, 9): -1, (1, 1): -1}),
            (6, {(0, 1): 0, (1, 9): -1, (1, 1): -1}), (3, {(0, 1): 1, (9, 10): 1, (1, 1): 0}),
            (2, {(0, 1): 1, (9, 10): 1, (1, 1): 0}), (-9, {(0, 1): 1, (9, 10): 1, (1, 1): 0}),
        ):
            for ratio, due in signs.items():
                self.assertEqual(compare_greatest((1, (3, 4), (lap, 0, 7, 0), 2), "head", ratio), due, (lap, ratio))
                self.assertEqual(compare_greatest((1, (3, 4), (7, 0, lap, 0), 2), "crank", ratio), due, (lap, ratio))

    def test_without_an_eccentric(self):
        valve = (1, (0, 0), (-1, 0, 3, 0), 2)
        self.assertEqual([compare_greatest(valve, "head", ratio) for ratio in ((0, 1), (1, 3), (1, 2), (2, 3), (1, 1))],
                         [1, 1, 0, -1, -1])
        self.assertEqual([compare_greatest(valve, "crank", ratio) for ratio in ((0, 1), (1, 2), (1, 1))], [0, -1, -1])
        self.assertEqual(compare_greatest((1, (0, 0), (0, 0, -5, 0), 2), "crank", (1, 1)), 0)
        self.assertEqual(compare_greatest((1, (0, 0), (0, 0, -5, 0), 2), "head", (0, 1)), 0)

    def test_hardly_beside_a_ratio(self):
        self.assertEqual(compare_greatest((1, (GREAT, 1), (0, 0, 0, 0), 2 * GREAT), "head", (1, 2)), 1)
        self.assertEqual(compare_greatest((1, (GREAT, 0), (0, 0, 0, 0), 2 * GREAT - 1), "head", (1, 2)), 1)
        self.assertEqual(compare_greatest((1, (GREAT, 0), (0, 0, 0, 0), 2 * GREAT + 1), "head", (1, 2)), -1)

    def test_at_the_way_of_the_greatest(self):
        for valve in some_valves(40, 79):
            for end in ENDS:
                way = greatest_way(valve, end)
                for ratio in RATIOS:
                    at = way_angle(valve[0], (1, 0) if way is None else way)
                    self.assertEqual(compare_opening(valve, end, at, ratio), compare_greatest(valve, end, ratio))


class WideRegion(unittest.TestCase):
    def test_just_the_places_of_the_share(self):
        for valve in some_valves(40, 83):
            form = valve[0]
            for end in ENDS:
                for ratio in RATIOS:
                    region = wide_region(valve, end, ratio)
                    self.assertTrue(is_region(region))
                    self.assertEqual(region[0], form)
                    for angle in angles_up_to(form, 1)[::3] + [on_way(form, way) for way in ways_up_to(1)]:
                        due = compare_opening(valve, end, angle, ratio) >= 0
                        self.assertIs(holds(region, angle), due, (valve, end, ratio, angle))

    def test_nought_is_everywhere(self):
        for lap in (-9, 0, 5, 9):
            for end in ENDS:
                self.assertTrue(is_always(wide_region((1, (3, 4), (lap, 0, lap, 0), 2), end, (0, 1))))

    def test_touched_and_beyond(self):
        touch = wide_region((1, (3, 4), (3, 0, 4, 0), 2), "head", (1, 1))
        self.assertTrue(is_same_region(touch, (1, ("not", ("side", (-3, -4), -5)))))
        self.assertTrue(holds(touch, way_angle(1, (3, 4))))
        self.assertTrue(is_never(wide_region((1, (3, 4), (3, 0, 4, 0), 2), "crank", (1, 1))))
        self.assertFalse(is_never(wide_region((1, (3, 4), (3, 0, 4, 0), 2), "crank", (1, 2))))
        self.assertTrue(is_always(wide_region((1, (3, 4), (-7, 0, -8, 0), 2), "head", (1, 1))))
        self.assertTrue(is_always(wide_region((1, (3, 4), (-7, 0, -8, 0), 2), "crank", (1, 1))))
        self.assertFalse(is_always(wide_region((1, (3, 4), (-6, 0, -8, 0), 2), "head", (1, 1))))

    def test_without_an_eccentric(self):
        valve = (1, (0, 0), (-1, 0, 3, 0), 2)
        self.assertTrue(is_always(wide_region(valve, "head", (1, 2))))
        self.assertTrue(is_never(wide_region(valve, "head", (2, 3))))
        self.assertTrue(is_never(wide_region(valve, "crank", (1, 9))))


class GreatestWay(unittest.TestCase):
    def test_told(self):
        self.assertEqual(greatest_way(SLIDE, "head"), (3, 4))
        self.assertEqual(greatest_way(SLIDE, "crank"), (-3, -4))
        self.assertEqual(greatest_way((2, (6, -8), (1, 0, 0, 0), 1), "head"), (3, -4))
        self.assertEqual(greatest_way((2, (6, -8), (1, 0, 0, 0), 1), "crank"), (-3, 4))
        self.assertEqual(greatest_way((3, (0, -5), (1, 0, 0, 0), 1), "head"), (0, -1))
        self.assertEqual(greatest_way((1, (2 * GREAT, 4 * GREAT), (1, 0, 0, 0), 1), "head"), (1, 2))

    def test_none_without_an_eccentric(self):
        for end in ENDS:
            self.assertIsNone(greatest_way((1, (0, 0), (-1, 0, 3, 0), 2), end))

    def test_always_a_way(self):
        for valve in some_valves(40, 89):
            for end in ENDS:
                if valve[1] != (0, 0):
                    self.assertEqual(gcd(*greatest_way(valve, end)), 1)


class ByName(unittest.TestCase):
    def test_ports(self):
        self.assertEqual(compare_opening(ratio=(1, 2), angle=DOWN, end="crank", valve=SLIDE), 0)
        self.assertEqual(compare_greatest(ratio=(1, 1), end="head", valve=SLIDE), 0)
        self.assertEqual(wide_region(ratio=(1, 2), end="head", valve=SLIDE), wide_region(SLIDE, "head", (1, 2)))
        self.assertEqual(greatest_way(end="crank", valve=SLIDE), (-3, -4))


if __name__ == "__main__":
    unittest.main()
