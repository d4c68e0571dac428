import unittest
from fractions import Fraction
from math import gcd
from random import Random

from steamlinks.errors import InvalidRatio, Nought
from steamlinks.polynomials import added, common_divisor, count_roots, is_polynomial, multiplied, plain_polynomial
from steamlinks.polynomials import reduced_polynomial, value_at
from tests import oracle
from tests.samples import GREAT, product, some_polynomials

RATIOS = ((0, 1), (1, 1), (-1, 1), (1, 2), (-3, 2), (7, 3), (GREAT + 1, GREAT), (1, GREAT), (-GREAT, 1))


def value(polynomial, ratio):
    return sum((c * Fraction(*ratio) ** power for power, c in enumerate(polynomial)), Fraction(0))


SOME = some_polynomials(60, 1) + [(), (1,), (-GREAT,), (GREAT, 0, 0, -GREAT), (0, 0, 0, 5), (2, -4, -1, 2)]


class IsPolynomial(unittest.TestCase):
    def test_what_is_one(self):
        for numbers in ((), (1,), (-1,), (0, 1), (0, 0, -3), (GREAT, 0, -GREAT), (1,) * 60):
            self.assertIs(is_polynomial(numbers), True)

    def test_what_is_none(self):
        for numbers in (
            (0,), (1, 0), (0, 0, 0), [1], [], (True,), (1, True), (False, 1), (None,), ("1",), (1, (2,)), None, 1, "1", {1: 2}, b"1",
        ):
            self.assertIs(is_polynomial(numbers), False)


class Sums(unittest.TestCase):
    def test_added(self):
        for first, second, due in (
            ((), (), ()), ((1,), (), (1,)), ((), (0, 2), (0, 2)), ((1, 2), (-1, -2), ()), ((1, 2, 3), (4, 0, -3), (5, 2)),
            ((1, 2, 3), (-1, -2, -3), ()), ((1, 0, 0, 2), (3, 0, 0, -2), (4,)), ((GREAT,), (0, 0, GREAT), (GREAT, 0, GREAT)),
            ((2, 4), (2, 4), (4, 8)), ((1, 2, 3, 4), (0, 0, 0, -4), (1, 2, 3)),
        ):
            self.assertEqual(added(first, second), due)
            self.assertEqual(added(second, first), due)
            self.assertEqual(added(polynomial=first, other=second), due)

    def test_multiplied(self):
        for first, second, due in (
            ((), (), ()), ((), (1, 2), ()), ((3,), (1, 2), (3, 6)), ((1, 1), (-1, 1), (-1, 0, 1)), ((0, 2), (0, 2), (0, 0, 4)),
            ((GREAT, 1), (GREAT, -1), (GREAT * GREAT, 0, -1)), ((-1,), (0, -1), (0, 1)),
        ):
            self.assertEqual(multiplied(first, second), due)
            self.assertEqual(multiplied(second, first), due)
            self.assertEqual(multiplied(polynomial=first, other=second), due)

    def test_values_of_sums_and_products(self):
        for first in SOME[::3]:
            for second in SOME[::4]:
                total, times = added(first, second), multiplied(first, second)
                self.assertTrue(is_polynomial(total) and is_polynomial(times))
                for ratio in RATIOS[:6]:
                    self.assertEqual(value(total, ratio), value(first, ratio) + value(second, ratio))
                    self.assertEqual(value(times, ratio), value(first, ratio) * value(second, ratio))


class ValueAt(unittest.TestCase):
    def test_reduced(self):
        for polynomial, ratio, due in (
            ((), (5, 7), (0, 1)), ((4,), (5, 7), (4, 1)), ((0, 2), (1, 2), (1, 1)), ((1, 2), (-1, 2), (0, 1)), ((0, 0, 3), (1, 3), (1, 3)),
            ((0, 1), (-3, 4), (-3, 4)), ((2, -4, -1, 2), (1, 2), (0, 1)), ((0, 0, -1), (-1, 2), (-1, 4)),
        ):
            self.assertEqual(value_at(polynomial, ratio), due)
            self.assertEqual(value_at(polynomial=polynomial, ratio=ratio), due)

    def test_against_fractions(self):
        for polynomial in SOME:
            for ratio in RATIOS:
                due = value(polynomial, ratio)
                self.assertEqual(value_at(polynomial, ratio), (due.numerator, due.denominator))


class Divisors(unittest.TestCase):
    def test_reduced(self):
        for polynomial, due in (
            ((5,), (1,)), ((-5,), (1,)), ((2, -4), (-1, 2)), ((0, 0, -3), (0, 0, 1)), ((2, 4, 6), (1, 2, 3)), ((GREAT, GREAT), (1, 1)),
            ((-6, 0, 10, -4), (3, 0, -5, 2)),
        ):
            self.assertEqual(reduced_polynomial(polynomial), due)
            self.assertEqual(reduced_polynomial(polynomial=due), due)

    def test_common_divisors(self):
        for first, second, due in (
            ((), (4, 2), (2, 1)), ((), (-3,), (1,)), ((7,), (14, 7), (1,)), ((-1, 0, 1), (2, -4, 2), (-1, 1)),
            ((1, -2, 1), (-1, 3, -3, 1), (1, -2, 1)), ((-2, 0, 1), (-3, 0, 1), (1,)), ((-2, 0, 1), (0, -2, 0, 1), (-2, 0, 1)),
            ((3, -6), (-2, 4), (-1, 2)), ((1, 1), (-1, -1), (1, 1)), ((0, 0, 0, 2), (0, 0, -6), (0, 0, 1)), ((1, 0, 1), (1, 1), (1,)),
        ):
            self.assertEqual(common_divisor(first, second), due)
            self.assertEqual(common_divisor(second, first), due)
            self.assertEqual(common_divisor(polynomial=first, other=second), due)

    def test_products_of_known_factors(self):
        factors = ((-1, 2), (1, 3), (-2, 0, 1), (1, 1, 1), (-GREAT, 1), (1, GREAT), (5, 0, 0, 2), (0, 1))
        chance = Random(3)
        for _ in range(150):
            one, two, three = [[chance.choice(factors) for _ in range(chance.randint(0, 2))] for _ in range(3)]
            # The factors are primes, so that those of the first and the last are parted by what they are.
            one = [factor for factor in one if factor not in two]
            first, second = product((chance.choice((-6, -1, 1, 4)),), *one, *three), product((chance.choice((-10, 3)),), *two, *three)
            self.assertEqual(common_divisor(first, second), product(*three))

    def test_plain(self):
        for polynomial, due in (
            ((4,), (1,)), ((2, -4, 2), (-1, 1)), ((0, 0, 0, -2), (0, 1)), ((1, 0, 2, 0, 1), (1, 0, 1)), ((-2, 0, 1), (-2, 0, 1)),
            ((4, 0, -4, 0, 1), (-2, 0, 1)), ((3, 6), (1, 2)), (product((1, 1), (1, 1), (1, 0, 1), (1, 0, 1)), product((1, 1), (1, 0, 1))),
        ):
            self.assertEqual(plain_polynomial(polynomial), due)
            self.assertEqual(plain_polynomial(polynomial=due), due)

    def test_plain_of_many_fold_roots(self):
        factors = ((-1, 2), (1, 3), (-2, 0, 1), (1, 1, 1), (-GREAT, 1), (1, 0, GREAT))
        chance = Random(4)
        for _ in range(100):
            chosen = [factor for factor in factors if chance.random() < 0.4]
            powers = [factor for factor in chosen for _ in range(chance.randint(1, 3))]
            self.assertEqual(plain_polynomial(product((chance.choice((-3, 1, 8)),), *powers)), product(*chosen))

    def test_nought(self):
        for call in (
            lambda: reduced_polynomial(()), lambda: plain_polynomial(()), lambda: common_divisor((), ()),
            lambda: count_roots((), None, None), lambda: count_roots((), (0, 1), (1, 1)), lambda: count_roots((), (1, 1), (0, 1)),
            lambda: count_roots((), (1, 1), (1, 1)),
        ):
            self.assertRaises(Nought, call)
        for low, high, given in ((5, None, 5), (None, "x", "x"), ((2, 4), (0, 0), (2, 4)), ((1, 0), None, (1, 0))):
            with self.assertRaises(InvalidRatio) as told:
                count_roots((), low, high)
            self.assertEqual(told.exception.given, given)


class CountRoots(unittest.TestCase):
    def test_at_the_bounds_and_without_them(self):
        polynomial = (2, -4, -1, 2)
        for low, high, due in (
            (None, None, 3), ((0, 1), (2, 1), 2), (None, (1, 2), 1), ((1, 2), None, 1), ((1, 2), (2, 1), 1), ((0, 1), (1, 2), 0),
            ((-2, 1), (1, 2), 1), ((1, 3), (2, 3), 1), ((3, 2), None, 0), (None, (-3, 2), 0), ((1, 2), (1, 2), 0), ((2, 1), (0, 1), 0),
            ((1, 1), (-1, 1), 0), ((0, 1), (0, 1), 0),
        ):
            self.assertEqual(count_roots(polynomial, low, high), due, (low, high))
            self.assertEqual(count_roots(polynomial=polynomial, low=low, high=high), due)

    def test_constants_and_lines(self):
        self.assertEqual(count_roots((7,), None, None), 0)
        self.assertEqual(count_roots((7,), (0, 1), (1, 1)), 0)
        self.assertEqual(count_roots((-1, 2), None, None), 1)
        self.assertEqual(count_roots((-1, 2), None, (1, 2)), 0)
        self.assertEqual(count_roots((-1, 2), (1, 2), None), 0)
        self.assertEqual(count_roots((0, 0, -2), (-1, GREAT), (1, GREAT)), 1)
        self.assertEqual(count_roots((2, 0, -GREAT), (0, 1), (1, 1)), 1)
        self.assertEqual(count_roots((2, 0, -GREAT), (-1, GREAT), (1, GREAT)), 0)

    def test_roots_that_are_known(self):
        roots = [Fraction(n, m) for n in range(-4, 5) for m in (1, 2, 3) if gcd(n, m) == 1] + [Fraction(GREAT + 1, GREAT)]
        chance = Random(5)
        for _ in range(120):
            chosen = chance.sample(roots, chance.randint(1, 4))
            factors = [(-root.numerator, root.denominator) for root in chosen for _ in range(chance.randint(1, 2))]
            polynomial = product(*factors, *chance.choice(((), ((1, 0, 1),), ((-7,),))))
            for low, high in ((None, None), (None, chance.choice(roots)), (chance.choice(roots), None), chance.sample(roots, 2)):
                due = [
                    root for root in chosen
                    if (low is None or root > low) and (high is None or root < high)
                ]
                bounds = [None if bound is None else (bound.numerator, bound.denominator) for bound in (low, high)]
                self.assertEqual(count_roots(polynomial, *bounds), len(due), (chosen, low, high))

    def test_roots_that_are_no_ratios(self):
        for polynomial in some_polynomials(150, 6) + [(1, 0, -4, 0, 1), (-1, 3, 0, -4)]:
            if not polynomial:
                continue
            roots = oracle.real_roots(polynomial)
            self.assertEqual(count_roots(polynomial, None, None), len(roots), polynomial)
            for low in (-3, -1, 0, 1):
                for high in (-1, 0, 1, 2):
                    due = [root for root in roots if oracle.sign(root - low) > 0 > oracle.sign(root - high)]
                    self.assertEqual(count_roots(polynomial, (low, 1), (high, 1)), len(due), (polynomial, low, high))


if __name__ == "__main__":
    unittest.main()
