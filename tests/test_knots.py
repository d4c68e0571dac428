import unittest
from fractions import Fraction
from math import gcd
from random import Random

from steamlinks.errors import InvalidPoint, InvalidRatio, Nought, Same
from steamlinks.knots import compare_points, enclosed, is_knot, is_point, ratio_between, roots_of, sign_at
from tests import oracle
from tests.samples import GREAT, product, some_polynomials

ROOT = ((-2, 0, 1), 1)
# Points in ascending order, several of them one number.
ASCENDING = (
    ((-GREAT, 1),), (((-3, 0, 1), 0), ((6, 0, -5, 0, 1), 0)), ((-3, 2),), (((-2, 0, 1), 0), ((-4, 0, 0, 0, 1), 0)),
    ((-1, 1),), (((-1, 0, 2), 0),), ((0, 1),), (((-1, 0, GREAT * GREAT + 1), 1),), ((1, GREAT),), (((-1, 0, GREAT * GREAT - 1), 1),),
    (((-1, 0, 2), 1), ((-1, 0, 0, 0, 4), 1), ((-1, 4, 2, -10, 0, 4), 3)),
    ((1, 1),), ((7, 5),), (ROOT, ((6, 0, -5, 0, 1), 2), ((-4, 0, 0, 0, 1), 1)), (((-2 * GREAT * GREAT - 1, 0, GREAT * GREAT), 1),),
    ((3, 2),), (((-3, 0, 1), 1), ((6, 0, -5, 0, 1), 3)), ((GREAT, 1),),
)


def fraction(ratio):
    return Fraction(*ratio)


class Kinds(unittest.TestCase):
    def test_knots(self):
        for knot in (
            ROOT, ((-2, 0, 1), 0), ((-1, 0, 2), 0), ((6, 0, -5, 0, 1), 3), ((-2, 0, 0, 1), 0), ((1, -3, 0, 1), 2), ((-3, 0, 0, 0, 0, 0, 1), 1),
            ((-1, -1, 1), 0), ((-2, 0, -1, 0, 1), 1), ((-2 * GREAT * GREAT - 1, 0, GREAT * GREAT), 1),
        ):
            self.assertIs(is_knot(knot), True, knot)
            self.assertIs(is_point(knot), True, knot)
            self.assertIs(is_knot(value=knot), True)

    def test_no_knots(self):
        for knot in (
            # No real roots, too few of them, an index below 0 or none.
            ((1, 0, 1), 0), ((-2, 0, 1), 2), ((-2, 0, 1), -1), ((-2, 0, 1), True), ((-2, 0, 1), None), ((-2, 0, 0, 1), 1),
            # Not plain, not reduced, with the lead below 0.
            ((4, 0, -4, 0, 1), 0), ((-4, 0, 2), 0), ((2, 0, -1), 0), (product((-2, 0, 1), (1, 0, 1), (1, 0, 1)), 0),
            # Of a degree below 2.
            ((), 0), ((1,), 0), ((1, 2), 0), ((0, 1), 0),
            # With a root that is a ratio, whichever root is told.
            ((0, -2, 0, 1), 0), ((2, -4, -1, 2), 0), ((-1, 0, 1), 0), ((1, -3, 2), 1), (product((-2, 0, 1), (-GREAT, 1)), 0),
            (product((-2, 0, 1), (-1, GREAT)), 1), (product((-2, 0, 1), (-7, GREAT)), 0), (product((-2, 0, 1), (7, 3)), 1),
            # No pairs of the right kind.
            (), ((-2, 0, 1),), ((-2, 0, 1), 0, 0), [(-2, 0, 1), 0], ([-2, 0, 1], 0), (0, (-2, 0, 1)), ((-2, 0, 1, 0), 0), ((-2, False, 1), 0),
        ):
            self.assertIs(is_knot(knot), False, knot)
            self.assertIs(is_point(knot), False, knot)

    def test_points(self):
        for ratio in ((0, 1), (1, 2), (-5, 3), (GREAT, 1), (1, GREAT)):
            self.assertIs(is_point(ratio), True)
            self.assertIs(is_point(value=ratio), True)
            self.assertIs(is_knot(ratio), False)
        for ratio in ((0, 0), (1, 0), (0, 2), (2, 4), (1, -2), (True, 1), (1, True), [1, 2], (1,), (1, 2, 3), 1, None, "1"):
            self.assertIs(is_point(ratio), False, ratio)


class RootsOf(unittest.TestCase):
    def test_told(self):
        for polynomial, due in (
            ((5,), ()), ((-1, 2), ((1, 2),)), ((1, 0, 1), ()), ((0, 0, 0, 4), ((0, 1),)), ((2, -4, -1, 2), (((-2, 0, 1), 0), (1, 2), ((-2, 0, 1), 1))),
            ((0, -1, 0, 1), ((-1, 1), (0, 1), (1, 1))), ((1, -2, 1), ((1, 1),)), ((4, 0, -4, 0, 1), (((-2, 0, 1), 0), ((-2, 0, 1), 1))),
            (product((-GREAT, 1), (-1, GREAT)), ((1, GREAT), (GREAT, 1))),
            ((-2, 3), ((2, 3),)), ((-1, 0, GREAT * GREAT), ((-1, GREAT), (1, GREAT))),
        ):
            self.assertEqual(roots_of(polynomial), due)
            self.assertEqual(roots_of(polynomial=polynomial), due)

    def test_nought(self):
        self.assertRaises(Nought, roots_of, ())

    def test_ratios_and_others_in_their_order(self):
        chance = Random(7)
        ratios = [(n, m) for n in range(-5, 6) for m in (1, 2, 3, 7) if gcd(n, m) == 1]
        others = ((-2, 0, 1), (-3, 0, 1), (-1, -1, 1), (1, -3, 0, 1), (-2, 0, 0, 1), (1, 0, 1))
        for _ in range(80):
            chosen = chance.sample(ratios, chance.randint(0, 4)) + chance.sample(others, chance.randint(0, 2))
            factors = [(-told[0], told[1]) if len(told) == 2 else told for told in chosen]
            polynomial = product((chance.choice((-6, 1, 5)),), *factors, *chance.sample(factors, len(factors) // 2))
            roots = roots_of(polynomial)
            due = sorted([root for factor in factors for root in oracle.real_roots(factor)])
            self.assertEqual(len(roots), len(due), polynomial)
            for root, told in zip(roots, due):
                self.assertTrue(is_point(root), root)
                self.assertEqual(oracle.sign(oracle.number(root) - told), 0, (polynomial, root))
                self.assertEqual(sign_at(polynomial, root), 0)
            self.assertEqual({root for root in roots if not is_knot(root)}, {told for told in chosen if len(told) == 2})

    def test_all_kinds(self):
        for polynomial in some_polynomials(150, 8):
            if polynomial:
                roots = roots_of(polynomial)
                due = oracle.real_roots(polynomial)
                self.assertEqual([oracle.sign(oracle.number(root) - told) for root, told in zip(roots, due)], [0] * len(due), polynomial)
                self.assertEqual(len(roots), len(due))
                self.assertTrue(all([is_point(root) for root in roots]))
                for first, second in zip(roots, roots[1:]):
                    self.assertEqual(compare_points(first, second), -1)

    def test_all_ratios_are_told_as_such(self):
        for m in (1, 2, 3, 5, 7):
            for n in range(-40, 41):
                if gcd(n, m) == 1:
                    self.assertEqual(roots_of((-n, m)), ((n, m),))
                    for factor in ((-2, 0, 1), (5, 1), (-3, 2)):
                        roots = roots_of(product((-n, m), factor))
                        self.assertIn((n, m), roots, (n, m, factor))
                        self.assertEqual([is_knot(root) for root in roots], [root[0] == (-2, 0, 1) for root in roots])

    def test_roots_as_great_as_the_numbers_allow(self):
        # Nearly as far from 0 as 1 and the greatest ratio of a number and the lead together.
        for lead in range(1, 9):
            for most in (lead, lead + 1, 7, 15, 63, GREAT):
                for side in (1, -1):
                    polynomial = tuple(-most * side ** power for power in range(12)) + (lead,)
                    due = oracle.real_roots(polynomial) if most < GREAT else None
                    roots = roots_of(polynomial)
                    far = roots[-1 if side > 0 else 0]
                    self.assertEqual(compare_points(far, (side * most, lead)) if gcd(most, lead) == 1 else side, side)
                    if due is not None:
                        self.assertEqual(len(roots), len(due), polynomial)
                        self.assertEqual([oracle.sign(oracle.number(root) - told) for root, told in zip(roots, due)], [0] * len(due))

    def test_roots_hardly_beside_one_another(self):
        # Three of the roots of one polynomial differ by less than 1 / great.
        great = 10 ** 60
        polynomial = product((-1, great), (-2, 0, great * great * 2 - 1), (-1, 0, great * great + 1))
        roots = roots_of(polynomial)
        self.assertEqual(len(roots), 5)
        self.assertEqual([is_knot(root) for root in roots], [True, True, True, False, True])
        self.assertEqual(roots[3], (1, great))
        for first, second in zip(roots, roots[1:]):
            self.assertEqual(compare_points(first, second), -1)


    def test_clusters_far_finer_than_what_lies_between_them(self):
        # Pairs of roots hardly beside ratios, one pair much closer than the others: all are found, in a moment.
        for great, ratios in (
            (10 ** 60, ((-2, 7), (0, 1), (1, 3), (1, 1))), (10 ** 60 + 7, ((-10 ** 40, 3), (-1, 3), (-1, 4), (10 ** 30, 7))),
            (GREAT, ((1, 3),)), (GREAT, ((5, 8), (GREAT, 1))), (2 ** 300, ((1, 2 ** 300), (3, 4))),
        ):
            factors = []
            for index, (n, m) in enumerate(ratios):
                steep = great if index else great * great
                factors.append((n * n * steep * steep - 2, -2 * n * m * steep * steep, m * m * steep * steep))
            roots = roots_of(product(*factors))
            self.assertEqual(len(roots), 2 * len(ratios))
            for index, (n, m) in enumerate(ratios):
                low, high = roots[2 * index:2 * index + 2]
                self.assertEqual([compare_points(low, (n, m)), compare_points(high, (n, m))], [-1, 1])
            begin, end = enclosed(roots[0], (1, great ** 3))
            self.assertEqual(sign_of_steps(product(*factors), begin, end), -1)

    def test_roots_at_all_scales(self):
        scales = (1, 10 ** 9, 10 ** 40, 10 ** 41, 10 ** 90)
        roots = roots_of(product(*[(-2, 0, scale * scale) for scale in scales]))
        self.assertEqual(len(roots), 10)
        for root, scale in zip(roots[5:], scales[::-1]):
            self.assertEqual([compare_points(root, (141, 100 * scale)), compare_points(root, (71, 50 * scale))], [1, -1])
        self.assertEqual([root[1] for root in roots], list(range(10)))


def sign_of_steps(polynomial, low, high):
    """The product of the signs at two ratios."""
    return sign_at(polynomial, low) * sign_at(polynomial, high)


class SignAt(unittest.TestCase):
    def test_told(self):
        for polynomial, point, due in (
            ((), ROOT, 0), ((), (1, 2), 0), ((-5,), ROOT, -1), ((5,), (1, 2), 1), ((-1, 1), ROOT, 1), ((-3, 2), ROOT, -1), ((-1, 2), (1, 2), 0),
            ((-2, 0, 1), ROOT, 0), ((2, 0, -1), ROOT, 0), ((4, 0, -4, 0, 1), ROOT, 0), ((6, 0, -5, 0, 1), ROOT, 0), ((0, -2, 0, 1), ROOT, 0),
            ((0, 2, 0, -1), ((-2, 0, 1), 0), 0), ((-3, 0, 1), ROOT, -1), ((9, 0, -6, 0, 1), ROOT, 1), ((-2, 0, 1), ((6, 0, -5, 0, 1), 2), 0),
            ((-2, 0, 1), ((6, 0, -5, 0, 1), 3), 1), ((-2, 0, 1), ((6, 0, -5, 0, 1), 1), 0), ((-2, 0, 1), (7, 5), -1), ((-2, 0, 1), (3, 2), 1),
            # Roots hardly beside.
            ((-2 * GREAT * GREAT - 1, 0, GREAT * GREAT), ROOT, -1), ((-2 * GREAT * GREAT + 1, 0, GREAT * GREAT), ROOT, 1),
            ((-2 * GREAT * GREAT + 1, 0, GREAT * GREAT), ((-2, 0, 1), 0), 1),
            (product((-2 * GREAT * GREAT + 1, 0, GREAT * GREAT), (-2, 0, 1)), ROOT, 0),
            (product((-2 * 10 ** 90 + 1, 0, 10 ** 90), (-1, 1)), (product((-2 * 10 ** 90 + 1, 0, 10 ** 90), (-2, 0, 1)), 3), 1),
            (product((-2 * 10 ** 90 + 1, 0, 10 ** 90), (-1, 1)), (product((-2 * 10 ** 90 + 1, 0, 10 ** 90), (-2, 0, 1)), 2), 0),
            ((1, GREAT), ((-1, 0, GREAT * GREAT + 1), 0), 1), ((1, GREAT), ((-1, 0, GREAT * GREAT - 1), 0), -1),
            # Flat near 0 and steep at the root; small numbers and a great root.
            ((1000,) + (0,) * 19 + (-1,), ((-2, 0, 1), 0), -1), ((1000,) + (0,) * 19 + (-1,), ROOT, -1), ((1100,) + (0,) * 19 + (-1,), ROOT, 1),
            ((1000,) + (0,) * 18 + (1,), ((-2, 0, 1), 0), 1), ((-100100, 100), ((-1000003, 0, 1), 1), -1), ((-100000, 100), ((-1000003, 0, 1), 1), 1),
            ((100100, 100), ((-1000003, 0, 1), 0), 1), ((100000, 100), ((-1000003, 0, 1), 0), -1),
            ((-1001 * GREAT, GREAT), ((-1000003, 0, 1), 1), -1), ((-GREAT, 1), ((-GREAT * GREAT - 1, 0, 1), 1), 1), ((-GREAT - 1, 1), ((-GREAT * GREAT - 1, 0, 1), 1), -1),
        ):
            self.assertEqual(sign_at(polynomial, point), due, (polynomial, point))
            self.assertEqual(sign_at(polynomial=polynomial, point=point), due)

    def test_against_decimals(self):
        knots = [root for polynomial in some_polynomials(60, 9) if polynomial for root in roots_of(polynomial)][::2]
        for point in knots:
            number = oracle.number(point)
            for polynomial in some_polynomials(25, 10) + [point[0] if is_knot(point) else (), product((-1, 3), (1, -3, 0, 1))]:
                self.assertEqual(sign_at(polynomial, point), oracle.sign(oracle.value(polynomial, number)), (polynomial, point))


class ComparePoints(unittest.TestCase):
    def test_all_of_a_row(self):
        for index, points in enumerate(ASCENDING):
            for place, others in enumerate(ASCENDING):
                for point in points:
                    for other in others:
                        due = (index > place) - (index < place)
                        self.assertEqual(compare_points(point, other), due, (point, other))
                        self.assertEqual(compare_points(point=other, other=point), -due)

    def test_hardly_unlike(self):
        # sqrt(2) told by polynomials that share a factor, beside a root less than 1 / great off.
        great = 10 ** 60
        near = ((-2 * great * great + 1, 0, great * great), 1)
        both = (product(near[0], ROOT[0]), 2)
        above = (both[0], 3)
        for first, second, due in (
            (near, ROOT, -1), (near, both, 0), (ROOT, above, 0), (near, above, -1), (both, ROOT, -1), (both, above, -1),
            ((great + 1, great), (1, 1), 1), (near, ROOT, -1), (((-2 * GREAT * GREAT + 1, 0, GREAT * GREAT), 1), ROOT, -1),
        ):
            self.assertEqual([compare_points(first, second), compare_points(second, first)], [due, -due], (first, second))

    def test_against_decimals(self):
        points = [root for polynomial in some_polynomials(70, 11) if polynomial for root in roots_of(polynomial)][::3]
        for point in points:
            for other in points:
                due = oracle.sign(oracle.number(point) - oracle.number(other))
                self.assertEqual(compare_points(point, other), due, (point, other))


class RatioBetween(unittest.TestCase):
    def test_all_of_a_row(self):
        for index, points in enumerate(ASCENDING):
            for place, others in enumerate(ASCENDING):
                for point in points:
                    for other in others:
                        if index == place:
                            with self.assertRaises(Same) as told:
                                ratio_between(point, other)
                            self.assertIs(told.exception.given, other)
                            continue
                        found = ratio_between(point, other)
                        self.assertTrue(is_point(found) and not is_knot(found))
                        due = 1 if index < place else -1
                        self.assertEqual([compare_points(found, point), compare_points(other, found)], [due, due], (point, other))

    def test_by_name(self):
        self.assertEqual(compare_points(ratio_between(point=ROOT, other=(7, 5)), ROOT), -1)


class Enclosed(unittest.TestCase):
    def test_as_close_as_wished(self):
        for points in ASCENDING + ((((-1000003, 0, 1), 0), ((-2, 0, 0, 0, 0, 0, 0, 0, 1), 1), ((-3 * GREAT, 1, 1), 1)),):
            for point in points:
                for ratio in ((1, 1), (3, 1), (1, 2), (1, 3), (2, 3), (21, 10), (15, 4), (2097157, 3), (524295, 7), (1, 10), (GREAT, 1), (1, GREAT), (2, GREAT + 1)):
                    low, high = enclosed(point, ratio)
                    self.assertTrue(is_point(low) and is_point(high) and not is_knot(low) and not is_knot(high))
                    self.assertEqual([compare_points(low, point), compare_points(high, point)], [-1, 1], (point, ratio))
                    self.assertLessEqual(fraction(high) - fraction(low), fraction(ratio))
        low, high = enclosed(point=(1, 3), ratio=(1, 7))
        self.assertTrue(fraction(low) < Fraction(1, 3) < fraction(high) <= fraction(low) + Fraction(1, 7))

    def test_only_above_nought(self):
        for ratio in ((0, 1), (-1, 2), (-GREAT, 1), (2, 4), (1, 0), None, 1, (1, True)):
            for point in (ROOT, (1, 2)):
                with self.assertRaises(InvalidRatio) as told:
                    enclosed(point, ratio)
                self.assertIs(told.exception.given, ratio)
        with self.assertRaises(InvalidPoint):
            enclosed((2, 4), (0, 1))


if __name__ == "__main__":
    unittest.main()
