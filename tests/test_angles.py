import unittest
from math import gcd

from steamlinks.angles import angle_of, falling_angle, is_angle, is_turn, way_angle
from steamlinks.errors import InvalidForm, InvalidNumber, InvalidVector, NoAngle
from tests import oracle
from tests.samples import FORMS, GREAT, angles_up_to, vectors_up_to, ways_up_to


class IsAngle(unittest.TestCase):
    def test_just_those_of_point_7(self):
        around = range(-4, 5)
        for form in range(-1, 6):
            for a, b in vectors_up_to(4):
                for level in around:
                    due = form in FORMS and gcd(a, b, level) == 1 and level * level < a * a + form * b * b
                    self.assertIs(is_angle((form, a, b, level)), due, (form, a, b, level))

    def test_level_at_the_length_is_none(self):
        self.assertTrue(is_angle((1, 3, 4, 4)))
        self.assertFalse(is_angle((1, 3, 4, 5)))
        self.assertFalse(is_angle((1, 3, 4, -5)))
        self.assertFalse(is_angle((1, 3, 4, 6)))
        self.assertTrue(is_angle((2, 1, 2, 2)))
        self.assertFalse(is_angle((2, 1, 2, 3)))
        self.assertFalse(is_angle((3, 1, 1, -2)))
        self.assertTrue(is_angle((3, 1, 2, -3)))

    def test_form_counts_in_the_length(self):
        self.assertFalse(is_angle((1, 0, 2, 3)))
        self.assertFalse(is_angle((2, 0, 2, 3)))
        self.assertTrue(is_angle((3, 0, 2, 3)))

    def test_nought_vector_is_none(self):
        for form in FORMS:
            for level in (-1, 0, 1):
                self.assertFalse(is_angle((form, 0, 0, level)))

    def test_great_numbers(self):
        self.assertTrue(is_angle((1, GREAT, GREAT + 1, GREAT)))
        self.assertFalse(is_angle((1, GREAT, 0, GREAT)))
        self.assertTrue(is_angle((1, GREAT, 1, GREAT)))

    def test_answers_are_truth_values(self):
        for value in (None, "angle", (1, 3, 4), [1, 3, 4, 3], (1, True, 4, 3), (True, 3, 4, 3), (1, 3, 4, 3, 0)):
            self.assertIs(is_angle(value), False)
        self.assertIs(is_angle((1, 3, 4, 3)), True)


class IsTurn(unittest.TestCase):
    def test_just_those_of_point_9(self):
        for p, q in vectors_up_to(6):
            due = gcd(p, q) == 1 and (p > 0 or (p, q) == (0, 1))
            self.assertIs(is_turn((p, q)), due, (p, q))

    def test_values_of_other_kinds(self):
        for value in (None, 1, "10", [1, 0], (1,), (1, 0, 0), (True, 0), (1, False), ((1, 0), 0), {}, object()):
            self.assertIs(is_turn(value), False)


class AngleOf(unittest.TestCase):
    def test_reduced_with_its_signs(self):
        self.assertEqual(angle_of(1, (6, 8), 6), (1, 3, 4, 3))
        self.assertEqual(angle_of(1, (-6, 8), -6), (1, -3, 4, -3))
        self.assertEqual(angle_of(2, (0, -6), 0), (2, 0, -1, 0))
        self.assertEqual(angle_of(3, (-4, 0), 2), (3, -2, 0, 1))
        self.assertEqual(angle_of(1, (6, 9), 2), (1, 6, 9, 2))
        self.assertEqual(falling_angle(1, (6, 8), 6), (1, -3, -4, -3))
        self.assertEqual(falling_angle(1, (-6, 8), -6), (1, 3, -4, 3))
        self.assertEqual(falling_angle(3, (0, 5), 0), (3, 0, -1, 0))

    def test_rises_and_falls_through_the_level(self):
        for form in FORMS:
            for vector in vectors_up_to(4):
                for level in range(-4, 5):
                    if level * level >= oracle.norm(form, vector):
                        continue
                    self.check_passing(form, vector, level)

    def check_passing(self, form, vector, level):
        for angle, way in ((angle_of(form, vector, level), 1), (falling_angle(form, vector, level), -1)):
            self.assertTrue(is_angle(angle))
            self.assertEqual(angle[0], form)
            u = oracle.arrow(angle)
            self.assertEqual(oracle.side_sign(form, u, vector, level), 0)
            # A little further on the product has grown, or shrunk.
            on = (u[0] - u[1] / 1000, u[1] + u[0] / 1000)
            self.assertEqual(oracle.sign(oracle.along(form, on, vector) - level), way)

    def test_no_angle_at_and_beyond_the_length(self):
        for make in (angle_of, falling_angle):
            for form, vector, level in (
                (1, (3, 4), 5), (1, (3, 4), -5), (1, (3, 4), 6), (1, (0, 0), 0), (1, (0, 0), 1), (2, (1, 2), 3),
                (3, (1, 1), 2), (3, (1, 1), -2), (2, (0, 0), -1), (1, (0, GREAT), GREAT),
            ):
                with self.assertRaises(NoAngle):
                    make(form, vector, level)
            for form, vector, level in ((1, (3, 4), 4), (2, (1, 2), -2), (3, (1, 1), 1), (1, (1, GREAT), GREAT)):
                self.assertTrue(is_angle(make(form, vector, level)))

    def test_no_angle_is_told_last(self):
        for make in (angle_of, falling_angle):
            with self.assertRaises(InvalidForm):
                make(4, (0, 0), 5)
            with self.assertRaises(InvalidVector):
                make(1, [0, 0], 5)
            with self.assertRaises(InvalidNumber):
                make(1, (0, 0), True)

    def test_great_numbers(self):
        vector = (6 * GREAT, 8 * GREAT)
        self.assertEqual(angle_of(1, vector, 6 * GREAT), (1, 3, 4, 3))
        self.assertEqual(angle_of(1, (GREAT, 1), GREAT), (1, GREAT, 1, GREAT))

    def test_an_angle_is_its_own(self):
        for form in FORMS:
            for angle in angles_up_to(form, 3):
                self.assertEqual(angle_of(form, angle[1:3], angle[3]), angle)


class WayAngle(unittest.TestCase):
    def test_as_told(self):
        self.assertEqual(way_angle(1, (1, 0)), (1, 0, 1, 0))
        self.assertEqual(way_angle(1, (-1, 0)), (1, 0, -1, 0))
        self.assertEqual(way_angle(2, (0, 1)), (2, -1, 0, 0))
        self.assertEqual(way_angle(3, (0, -1)), (3, 1, 0, 0))
        self.assertEqual(way_angle(1, (-7, 24)), (1, -24, -7, 0))
        self.assertEqual(way_angle(2, (2, 1)), (2, -1, 1, 0))
        self.assertEqual(way_angle(3, (3, -5)), (3, 5, 1, 0))
        self.assertEqual(way_angle(3, (2, 1)), (3, -3, 2, 0))

    def test_its_place_is_that_of_the_way(self):
        for form in FORMS:
            for way in ways_up_to(5):
                angle = way_angle(form, way)
                self.assertTrue(is_angle(angle))
                self.assertTrue(oracle.is_same(oracle.arrow(angle), oracle.way_arrow(form, way)))

    def test_by_name(self):
        self.assertEqual(way_angle(way=(2, 1), form=2), (2, -1, 1, 0))
        self.assertEqual(angle_of(level=6, vector=(6, 8), form=1), (1, 3, 4, 3))
        self.assertEqual(falling_angle(level=6, vector=(6, 8), form=1), (1, -3, -4, -3))
        self.assertTrue(is_angle(value=(1, 3, 4, 3)))
        self.assertTrue(is_turn(value=(0, 1)))


if __name__ == "__main__":
    unittest.main()
