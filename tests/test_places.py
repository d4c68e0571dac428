import unittest
from math import gcd, isqrt

from steamlinks.angles import angle_of, falling_angle, is_angle, is_turn, way_angle
from steamlinks.places import as_way, is_before, is_between, is_same_place, mirrored_angle, opposite_angle, side_at
from steamlinks.places import turn_back, turn_sum, turned, turned_angle, way_between
from tests import oracle
from tests.samples import FORMS, GREAT, TURNS, angles_up_to, on_way, vectors_up_to, ways_up_to


def some_angles(form):
    """Angles of which some share their places, and ways among them."""
    return angles_up_to(form, 2)[::2] + [on_way(form, way) for way in ways_up_to(2)]


def hardly_parted():
    """Pairs of angles whose places are hardly apart, the second one behind the first one, by name."""
    figure = 10 ** 200
    return {
        "levels": (angle_of(1, (0, GREAT), GREAT - 2), angle_of(1, (0, GREAT), GREAT - 1)),
        "ways": (way_angle(3, (GREAT, 1)), way_angle(3, (GREAT - 1, 1))),
        "a way and a level": (way_angle(1, (1, GREAT)), falling_angle(1, (5, 0), 0)),
        "vectors": (angle_of(2, (GREAT + 1, GREAT), 7), angle_of(2, (GREAT, GREAT), 7)),
        "a root and its fraction": (angle_of(1, (0, 3), 1), reduced_way(isqrt(8 * figure * figure), figure)),
        "from (1, 0)": (way_angle(2, (1, 0)), way_angle(2, (GREAT, 1))),
        "at half a turn": (way_angle(1, (-GREAT, 1)), way_angle(1, (-GREAT, -1))),
    }


def hardly_parted_past_front():
    return {
        "past (1, 0)": (way_angle(2, (GREAT, -1)), way_angle(2, (GREAT, 1))),
        "at (1, 0)": (way_angle(2, (GREAT, -1)), way_angle(2, (1, 0))),
    }


def reduced_way(c, s):
    return way_angle(1, (c // gcd(c, s), s // gcd(c, s)))


class SideAt(unittest.TestCase):
    def test_against_the_sentence_of_point_7(self):
        for form in FORMS:
            for angle in angles_up_to(form, 2):
                place = oracle.arrow(angle)
                for vector in vectors_up_to(2):
                    for level in (-3, -1, 0, 1, 2):
                        due = oracle.side_sign(form, place, vector, level)
                        self.assertEqual(side_at(angle, vector, level), due, (angle, vector, level))

    def test_nought_at_the_own_vector_and_its_multiples(self):
        for form in FORMS:
            for angle in angles_up_to(form, 4):
                a, b, level = angle[1:]
                for factor in (1, 2, 7, -1, -3, GREAT):
                    self.assertEqual(side_at(angle, (factor * a, factor * b), factor * level), 0)
                self.assertEqual(side_at(angle, (a, b), level + 1), -1)
                self.assertEqual(side_at(angle, (a, b), level - 1), 1)

    def test_rising_through_its_level(self):
        # Of both places at the level the angle is the one from which the product grows.
        for form in FORMS:
            for a, b, level in ((3, 4, 3), (1, 1, 1), (2, -1, 0), (-2, 1, -1)):
                if is_angle((form, a, b, level)):
                    self.assertEqual(side_at((form, a, b, level), (-form * b, a), 0), -1)
                    self.assertEqual(side_at((form, -a, -b, -level), (-form * b, a), 0), 1)

    def test_nought_vector(self):
        for level in (-2, 0, 3):
            self.assertEqual(side_at((1, 3, 4, 3), (0, 0), level), (level < 0) - (level > 0))

    def test_hardly_beside_a_level(self):
        # At (1, 1, 1, 0) the arrow stands at 45 degrees behind the quarter: its numbers are roots of 1 / 2.
        angle = angle_of(1, (1, 1), 0)
        big = 10 ** 399
        root = isqrt(2 * big * big)
        self.assertEqual(side_at(angle, (2 * big, 0), root), 1)
        self.assertEqual(side_at(angle, (2 * big, 0), root + 1), -1)
        self.assertEqual(side_at(angle, (-2 * big, 0), -root), -1)
        self.assertEqual(side_at(angle, (-2 * big, 0), -root - 1), 1)


class AsWay(unittest.TestCase):
    def test_ways_and_none(self):
        self.assertEqual(as_way((1, 3, 4, 3)), (1, 0))
        self.assertEqual(as_way((1, -3, -4, -3)), (-7, 24))
        self.assertIsNone(as_way((1, 2, 2, 1)))
        self.assertEqual(as_way((2, 2, 2, -1)), None)
        self.assertEqual(as_way((3, 2, 0, 1)), (1, -1))
        self.assertEqual(as_way((3, -2, 0, -1)), (1, 1))
        self.assertEqual(as_way((2, 1, 1, 1)), (1, 0))
        self.assertEqual(as_way((2, 1, -1, -1)), (-1, 0))

    def test_level_nought_is_always_a_way(self):
        self.assertEqual(as_way((1, 1, 1, 0)), (1, -1))
        self.assertEqual(as_way((2, 1, 1, 0)), (2, -1))
        self.assertEqual(as_way((3, -3, 1, 0)), (1, 1))
        for form in FORMS:
            for way in ways_up_to(6):
                self.assertEqual(as_way(way_angle(form, way)), way)

    def test_none_exactly_if_no_square(self):
        for form in FORMS:
            for angle in angles_up_to(form, 4):
                a, b, level = angle[1:]
                square = form * (oracle.norm(form, (a, b)) - level * level)
                is_square = isqrt(square) ** 2 == square
                way = as_way(angle)
                self.assertEqual(way is None, not (level == 0 or is_square), angle)
                if way is not None:
                    self.assertEqual(gcd(*way), 1)
                    self.assertTrue(oracle.is_same(oracle.way_arrow(form, way), oracle.arrow(angle)))

    def test_great_numbers(self):
        n = GREAT
        way = (n, n + 1)
        moved = turned_angle(way_angle(1, way), (n + 3, n))
        self.assertEqual(as_way(turned_angle(moved, turn_back((n + 3, n)))), way)
        self.assertEqual(as_way((1, n * n - 1, 2 * n, n * n - 1)), (1, 0))
        self.assertIsNone(as_way((1, n * n, 2 * n, n * n - 1)))


class SamePlace(unittest.TestCase):
    def test_all_pairs(self):
        for form in FORMS:
            angles = some_angles(form)
            arrows = [oracle.arrow(angle) for angle in angles]
            for angle, place in zip(angles, arrows):
                for other, far in zip(angles, arrows):
                    self.assertIs(is_same_place(angle, other), oracle.is_same(place, far), (angle, other))

    def test_one_place_of_several_angles(self):
        for angles in (
            ((1, -24, -7, 0), (1, -3, -4, -3)),
            ((1, 0, 1, 0), (1, 3, 4, 3), (1, 1, 1, 1), (1, -7, 9, -7)),
            ((3, 3, 1, 0), (3, 2, 0, 1), (3, 0, 2, -3), (3, 1, 1, -1), (3, 4, 2, -1)),
        ):
            for angle in angles:
                for other in angles:
                    self.assertIs(is_same_place(angle, other), True)

    def test_opposite_places_are_not_the_same(self):
        self.assertIs(is_same_place((1, 1, 1, 0), (1, -1, -1, 0)), False)
        self.assertIs(is_same_place((1, 3, 4, 3), (1, 0, -1, 0)), False)
        self.assertIs(is_same_place((1, 2, 2, 1), (1, -2, -2, -1)), False)

    def test_hardly_parted(self):
        for name, (angle, other) in {**hardly_parted(), **hardly_parted_past_front()}.items():
            with self.subTest(name):
                self.assertIs(is_same_place(angle, angle), True)
                self.assertIs(is_same_place(other, other), True)
                self.assertIs(is_same_place(angle, other), False)
                self.assertIs(is_same_place(other, angle), False)


class TurnOrder(unittest.TestCase):
    def test_all_pairs(self):
        for form in FORMS:
            angles = some_angles(form)
            positions = [oracle.position(oracle.arrow(angle)) for angle in angles]
            for angle, at in zip(angles, positions):
                for other, far in zip(angles, positions):
                    self.assertIs(is_before(angle, other), oracle.sign(far - at) > 0, (angle, other))

    def test_begins_with_the_place_of_1_0(self):
        for form in FORMS:
            front = way_angle(form, (1, 0))
            for way in ways_up_to(3):
                if way != (1, 0):
                    self.assertIs(is_before(front, way_angle(form, way)), True)
                    self.assertIs(is_before(way_angle(form, way), front), False)
        self.assertIs(is_before((1, 3, 4, 3), (1, 0, 1, 0)), False)
        self.assertIs(is_before((1, 0, 1, 0), (1, 3, 4, 3)), False)

    def test_goes_round(self):
        ways = ((1, 0), (5, 1), (1, 1), (0, 1), (-1, 1), (-5, 1), (-1, 0), (-5, -1), (-1, -1), (0, -1), (1, -1), (5, -1))
        for form in FORMS:
            for index, way in enumerate(ways):
                for place, other in enumerate(ways):
                    due = index < place
                    self.assertIs(is_before(way_angle(form, way), way_angle(form, other)), due, (way, other))

    def test_hardly_parted(self):
        for name, (angle, other) in hardly_parted().items():
            with self.subTest(name):
                self.assertIs(is_before(angle, other), True)
                self.assertIs(is_before(other, angle), False)
        for name, (angle, other) in hardly_parted_past_front().items():
            with self.subTest(name):
                self.assertIs(is_before(angle, other), False)
                self.assertIs(is_before(other, angle), True)


class Between(unittest.TestCase):
    def test_all_triples(self):
        for form in FORMS:
            angles = some_angles(form)[::4] + [way_angle(form, (1, 0)), way_angle(form, (-1, 0))]
            arrows = {angle: oracle.arrow(angle) for angle in angles}
            for low in angles:
                for high in angles:
                    for angle in angles:
                        due = oracle.is_between(arrows[angle], arrows[low], arrows[high])
                        self.assertIs(is_between(angle, low, high), due, (angle, low, high))

    def test_one_way_round_and_the_other(self):
        right, up, left, down = [way_angle(1, way) for way in ((1, 0), (0, 1), (-1, 0), (0, -1))]
        self.assertIs(is_between(up, right, left), True)
        self.assertIs(is_between(up, left, right), False)
        self.assertIs(is_between(down, left, right), True)
        self.assertIs(is_between(right, down, up), True)
        self.assertIs(is_between(left, down, up), False)
        self.assertIs(is_between(right, right, left), False)
        self.assertIs(is_between(left, right, left), False)

    def test_one_place_for_both(self):
        low, high = (1, 3, 4, 3), (1, 0, 1, 0)
        self.assertIs(is_between((1, 2, 2, 1), low, high), True)
        self.assertIs(is_between((1, 0, -1, 0), low, high), True)
        self.assertIs(is_between((1, 1, 1, 1), low, high), False)

    def test_hardly_parted(self):
        low, high = way_angle(2, (GREAT, -1)), way_angle(2, (GREAT, 1))
        self.assertIs(is_between(way_angle(2, (1, 0)), low, high), True)
        self.assertIs(is_between(way_angle(2, (-1, 0)), low, high), False)
        self.assertIs(is_between(way_angle(2, (-1, 0)), high, low), True)
        self.assertIs(is_between(way_angle(2, (GREAT + 1, 1)), low, high), True)
        self.assertIs(is_between(way_angle(2, (GREAT - 1, 1)), low, high), False)


class WayBetween(unittest.TestCase):
    def check_way(self, low, high):
        way = way_between(low, high)
        self.assertIsInstance(way, tuple)
        self.assertEqual(gcd(*way), 1)
        self.assertIs(is_between(way_angle(low[0], way), low, high), True, (low, high, way))
        return way

    def test_all_pairs(self):
        for form in FORMS:
            angles = some_angles(form)
            arrows = [oracle.arrow(angle) for angle in angles]
            for low, begin in zip(angles[::2], arrows[::2]):
                for high, end in zip(angles, arrows):
                    way = self.check_way(low, high)
                    self.assertTrue(oracle.is_between(oracle.way_arrow(form, way), begin, end))

    def test_hardly_parted(self):
        for name, (low, high) in {**hardly_parted(), **hardly_parted_past_front()}.items():
            with self.subTest(name):
                self.check_way(low, high)
                self.check_way(high, low)

    def test_one_place_with_itself(self):
        for form in FORMS:
            for way in ways_up_to(4):
                angle = way_angle(form, way)
                self.assertNotEqual(self.check_way(angle, angle), way)
        self.assertNotEqual(self.check_way((1, 3, 4, 3), (1, 0, 1, 0)), (1, 0))
        self.check_way((1, 2, 2, 1), (1, 2, 2, 1))

    def test_nearer_and_nearer(self):
        low, high = angle_of(3, (1, 2), 1), way_angle(3, (-5, 7))
        for _ in range(12):
            high = way_angle(3, self.check_way(low, high))
        low, high = way_angle(3, (1, 2)), angle_of(3, (-5, -2), 1)
        for _ in range(12):
            low = way_angle(3, self.check_way(low, high))


class MovedAngles(unittest.TestCase):
    def test_opposite(self):
        self.assertEqual(opposite_angle((1, 3, 4, 3)), (1, -3, -4, 3))
        self.assertEqual(opposite_angle((2, -1, 0, 0)), (2, 1, 0, 0))
        for form in FORMS:
            for angle in angles_up_to(form, 3):
                other = opposite_angle(angle)
                self.assertEqual(other, (form, -angle[1], -angle[2], angle[3]))
                x, y = oracle.arrow(angle)
                self.assertTrue(oracle.is_same(oracle.arrow(other), (-x, -y)))

    def test_mirrored(self):
        self.assertEqual(mirrored_angle((1, 3, 4, 3)), (1, -3, 4, -3))
        self.assertEqual(mirrored_angle((3, 0, 1, 0)), (3, 0, 1, 0))
        for form in FORMS:
            for angle in angles_up_to(form, 3):
                other = mirrored_angle(angle)
                self.assertEqual(other, (form, -angle[1], angle[2], -angle[3]))
                x, y = oracle.arrow(angle)
                self.assertTrue(oracle.is_same(oracle.arrow(other), (x, -y)))

    def test_turned_in_numbers(self):
        self.assertEqual(turned_angle((1, 3, 4, 3), (1, 1)), (1, -4, 3, 3))
        self.assertEqual(turned_angle((1, 3, 4, 3), (1, 0)), (1, 3, 4, 3))
        self.assertEqual(turned_angle((1, 3, 4, 3), (0, 1)), (1, -3, -4, 3))
        self.assertEqual(turned_angle((2, 3, 4, 3), (0, 1)), (2, -3, -4, 3))
        self.assertEqual(turned_angle((1, 1, 0, 0), (2, 1)), (1, 3, 4, 0))
        self.assertEqual(turned_angle((1, 2, 0, 1), (2, 1)), (1, 6, 8, 5))
        self.assertEqual(turned_angle((3, 2, 0, 1), (1, 1)), (3, -1, 1, 1))
        self.assertEqual(turned_angle((2, 1, 1, 1), (1, 1)), (2, -5, 1, 3))

    def test_turned_as_places(self):
        for form in FORMS:
            for turn in TURNS:
                p, q = turn
                cosine, sine = oracle.way_arrow(form, (p * p - form * q * q, 2 * p * q))
                for angle in angles_up_to(form, 2)[::3]:
                    other = turned_angle(angle, turn)
                    self.assertTrue(is_angle(other), (angle, turn))
                    x, y = oracle.arrow(angle)
                    due = (cosine * x - sine * y, sine * x + cosine * y)
                    self.assertTrue(oracle.is_same(oracle.arrow(other), due), (angle, turn))


class Turns(unittest.TestCase):
    def test_turned_vector(self):
        self.assertEqual(turned(3, (1, 0), (1, 1)), (-2, 2))
        self.assertEqual(turned(1, (3, 4), (1, 1)), (-8, 6))
        self.assertEqual(turned(2, (3, 4), (1, 0)), (3, 4))
        self.assertEqual(turned(2, (3, 4), (0, 1)), (-6, -8))
        self.assertEqual(turned(3, (3, 4), (0, 1)), (-9, -12))
        self.assertEqual(turned(2, (3, 4), (2, 1)), (-26, 20))
        self.assertEqual(turned(1, (0, 0), (2, 1)), (0, 0))
        self.assertEqual(turned(1, (GREAT, 0), (1, 1)), (0, 2 * GREAT))

    def test_half_of_the_angle_has_the_tangent(self):
        for form in FORMS:
            for p, q in TURNS:
                half = oracle.way_arrow(form, (p, q))
                twice = (half[0] ** 2 - half[1] ** 2, 2 * half[0] * half[1])
                x, y = turned(form, (1, 0), (p, q))
                self.assertTrue(oracle.is_same(oracle.way_arrow(form, (x, y)), twice))

    def test_sums(self):
        self.assertEqual(turn_sum(1, (1, 1), (1, 1)), (0, 1))
        self.assertEqual(turn_sum(3, (1, 1), (1, 1)), (1, -1))
        self.assertEqual(turn_sum(1, (0, 1), (0, 1)), (1, 0))
        self.assertEqual(turn_sum(2, (0, 1), (1, 1)), (2, -1))
        self.assertEqual(turn_sum(1, (1, -1), (1, -1)), (0, 1))
        self.assertEqual(turn_sum(1, (1, 2), (1, 2)), (3, -4))
        self.assertEqual(turn_sum(1, (2, 1), (2, -1)), (1, 0))
        self.assertEqual(turn_sum(3, (3, 1), (1, 1)), (0, 1))

    def test_sums_turn_one_after_the_other(self):
        for form in FORMS:
            for turn in TURNS:
                self.assertEqual(turn_sum(form, turn, (1, 0)), turn)
                self.assertEqual(turn_sum(form, (1, 0), turn), turn)
                self.assertEqual(turn_sum(form, turn, turn_back(turn)), (1, 0))
                for other in TURNS:
                    both = turn_sum(form, turn, other)
                    self.assertTrue(is_turn(both), (form, turn, other))
                    for angle in angles_up_to(form, 1):
                        self.assertEqual(turned_angle(turned_angle(angle, turn), other), turned_angle(angle, both))

    def test_backs(self):
        self.assertEqual(turn_back((1, 0)), (1, 0))
        self.assertEqual(turn_back((0, 1)), (0, 1))
        self.assertEqual(turn_back((2, 3)), (2, -3))
        self.assertEqual(turn_back((2, -3)), (2, 3))


class ByName(unittest.TestCase):
    def test_places(self):
        angle, other = (1, 3, 4, 3), (1, 2, 2, 1)
        self.assertEqual(as_way(angle=angle), (1, 0))
        self.assertEqual(side_at(level=0, vector=(1, 0), angle=other), 1)
        self.assertFalse(is_same_place(other=other, angle=angle))
        self.assertTrue(is_before(other=other, angle=angle))
        self.assertTrue(is_between(high=angle, low=falling_angle(1, (1, 0), 0), angle=other))
        self.assertEqual(way_between(high=other, low=angle), way_between(angle, other))
        self.assertEqual(opposite_angle(angle=angle), (1, -3, -4, 3))
        self.assertEqual(mirrored_angle(angle=angle), (1, -3, 4, -3))
        self.assertEqual(turned_angle(turn=(1, 1), angle=angle), (1, -4, 3, 3))
        self.assertEqual(turned(turn=(1, 1), vector=(1, 0), form=3), (-2, 2))
        self.assertEqual(turn_sum(other=(1, 1), turn=(1, 2), form=1), (1, -3))
        self.assertEqual(turn_back(turn=(1, 2)), (1, -2))


if __name__ == "__main__":
    unittest.main()
