"""Geared engines: critical notches, and zones in which they start by themselves."""

import unittest
from random import Random

from steamlinks.certificates import certify_zone
from steamlinks.engines import dead_angle, is_engine, pull_sign, starts_everywhere
from steamlinks.errors import InvalidNotch
from steamlinks.knots import compare_points, enclosed, is_point, ratio_between, roots_of, sign_at
from steamlinks.links import valve_at
from steamlinks.places import turn_sum
from steamlinks.settings import crossed, turned_link
from steamlinks.zones import any_starting_notch, critical_notches, engine_at, is_geared, stalling_notch, starting_zones, starts_at
from tests import oracle
from tests.samples import GREAT, NOTCHES, TURNS, product, some_links

ENDS = ((-1, 1), (1, 1))
# The eccentric goes from (0, -1) through (0, 0) to (0, 1): it starts ahead on one side, back on the other one.
LEVER = (1, (0, 0), (0, 1), (0, 0), (0, 0, 0, 0), 1)
# The same with laps: too short an eccentric admits no steam.
LAPPED = (1, (0, 0), (0, 4), (0, 0), (1, 0, 1, 0), 1)
# The eccentric is (0, 3 t t - 1): back in the middle, between the roots of 3 t t - 1.
BENT = (1, (0, -1), (0, 0), (0, 3), (0, 0, 0, 0), 1)
STEADY = (1, (0, 1), (0, 0), (0, 0), (0, 0, 0, 0), 1)


def geared_of(*links, turns=((1, 0), (1, 1)), weights=(1, 1)):
    return (links[0][0], tuple(zip(turns, weights, links)))


ONE, PAIR, MIDDLE, LATE = (geared_of(LEVER), geared_of(LEVER, LEVER), geared_of(BENT, BENT), geared_of(LAPPED, LAPPED))


def some_geared(many, seed, cylinders=(1, 2, 2, 2)):
    chance = Random(seed)
    links = some_links(200, seed, 3)
    found = []
    for _ in range(many):
        form = chance.choice((1, 2, 3))
        own = [link for link in links if link[0] == form]
        found.append((form, tuple((chance.choice(TURNS), chance.randint(1, 3), chance.choice(own)) for _ in range(chance.choice(cylinders)))))
    return found


def starting_geared(many, seed):
    """Two cylinders about a quarter of a turn apart, with eccentrics about as far ahead, so that some zones start."""
    chance = Random(seed)
    found = []
    while len(found) < many:
        small = lambda most: chance.randint(-most, most)
        link = (1, (small(1), small(3)), (small(1), chance.choice((-5, 4, 6))), (small(1), small(3)), (chance.choice((0, 0, 1)),) * 4, 1)
        other = link if chance.random() < 0.6 else (1, (small(1), small(3)), (small(1), 5), (0, small(2)), (0, 0, 0, 0), 1)
        found.append((1, (((1, 0), chance.randint(1, 2), link), (chance.choice(((1, 1), (1, -1), (3, 2))), chance.randint(1, 2), other))))
    return found


def times(polynomial, number):
    return tuple(number * c for c in polynomial)


def less(first, second):
    longest = max(len(first), len(second))
    first, second = (tuple(row) + (0,) * (longest - len(row)) for row in (first, second))
    return tuple(a - b for a, b in zip(first, second))


def bare(polynomial):
    numbers = list(polynomial)
    while numbers and numbers[-1] == 0:
        numbers.pop()
    return tuple(numbers)


def due_polynomials(geared):
    """The critical polynomials, straight from point 30."""
    r, gears = geared
    rows, levels, lines = [], [], []
    for (p, q), weight, (_, first, second, third, (sh, xh, sc, xc), _) in gears:
        e = [(first[index], second[index], third[index]) for index in (0, 1)]
        w0, w1, h = p * p - r * q * q, -2 * p * q, p * p + r * q * q
        rows.append((less(times(e[0], w0), times(e[1], r * w1)), less(times(e[0], w1), times(e[1], -w0))))
        levels.append((h * sh, -h * xh, -h * sc, h * xc))
        lines.append((weight, h, (2 * r * p * q, p * p - r * q * q)))
    vectors = [line[2] for line in lines]
    if len(gears) == 2:
        (weight, h, (v, k)), (weight2, h2, (v2, k2)) = lines
        for sign in (1, -1):
            vectors.append((h2 * weight * v + sign * h * weight2 * v2, h2 * weight * k + sign * h * weight2 * k2))

    def inner(x, y):
        return less(product(x[0], y[0]), times(product(x[1], y[1]), -r))

    def cross(x, y):
        return less(product(x[0], y[1]), product(x[1], y[0]))

    found = []
    for row, own in zip(rows, levels):
        for level in own:
            found.append(less(inner(row, row), (level * level,)))
            for vector in vectors:
                line = ((vector[0],), (vector[1],))
                across = cross(row, line)
                found.append(less(times(product(across, across), r), times(inner(line, line), level * level)))
    if len(gears) == 2:
        across = cross(*rows)
        found.append(across)
        for level in levels[0]:
            for other in levels[1]:
                gap = tuple(less(times(rows[1][index], level), times(rows[0][index], other)) for index in (0, 1))
                found.append(less(times(product(across, across), r), inner(gap, gap)))
    return [bare(polynomial) for polynomial in found]


def ratios_within(low, high):
    """Three ratios strictly between two points."""
    middle = ratio_between(low, high)
    return (middle, ratio_between(low, middle), ratio_between(middle, high))


class Things(unittest.TestCase):
    def test_is_geared(self):
        for value in [ONE, PAIR, MIDDLE, (2, (((0, 1), GREAT, (2,) + LEVER[1:]),))] + some_geared(10, 81):
            self.assertIs(is_geared(value), True)
        for value in (engine_at(PAIR, (1, 2)), geared_of(LEVER, LEVER, LEVER, turns=TURNS, weights=(1, 1, 1)), (1, ()), (2, PAIR[1]), LEVER):
            self.assertIs(is_geared(value=value), False)

    def test_engine_at(self):
        self.assertEqual(engine_at(PAIR, (1, 2)), (1, (((1, 0), 1, (1, (0, 1), (0, 0, 0, 0), 2)), ((1, 1), 1, (1, (0, 1), (0, 0, 0, 0), 2)))))
        self.assertEqual(engine_at(geared=ONE, notch=(0, 1)), (1, (((1, 0), 1, (1, (0, 0), (0, 0, 0, 0), 1)),)))
        for geared in some_geared(15, 82):
            for notch in NOTCHES:
                engine = engine_at(geared, notch)
                self.assertTrue(is_engine(engine))
                self.assertEqual(engine, (geared[0], tuple((turn, weight, valve_at(link, notch)) for turn, weight, link in geared[1])))

    def test_refused_beyond_the_ends(self):
        for notch in ((GREAT + 1, GREAT), (-2, 1)):
            for call in (lambda: engine_at(PAIR, notch), lambda: starts_at(PAIR, 1, notch)):
                with self.assertRaises(InvalidNotch):
                    call()


class Critical(unittest.TestCase):
    def test_told(self):
        self.assertEqual(critical_notches(ONE), ((0, 1),))
        self.assertEqual(critical_notches(geared=PAIR), ((0, 1),))
        # The levels are 0 alone, so that the steady pair is critical nowhere: all its polynomials are numbers.
        self.assertEqual(critical_notches(geared_of(STEADY, STEADY)), ())
        # Those of one and the same link are () where they tell of two cranks in one line, all but N(F) and [F, T].
        self.assertEqual(critical_notches(geared_of(LEVER, LEVER, turns=((1, 0), (1, 0)))), ((0, 1),))
        # N(E) is 16 t t, which is the square of the lap at - 1/4 and 1/4; -1 and 1 themselves are never told.
        self.assertEqual(critical_notches(geared_of(LAPPED)), ((-1, 4), (0, 1), (1, 4)))
        self.assertEqual(critical_notches(geared_of((1, (0, 0), (0, 4), (0, 0), (4, 1, 4, 1), 1))), ((-1, 4), (1, 4)))
        roots = critical_notches(MIDDLE)
        self.assertEqual([compare_points(*pair) for pair in zip(roots, (((-1, 0, 3), 0), ((-1, 0, 3), 1)))], [0, 0])
        self.assertEqual(len(roots), 2)

    def test_all_roots_each_once(self):
        for geared in some_geared(8, 83) + starting_geared(4, 83):
            due = []
            for polynomial in due_polynomials(geared):
                due.extend(oracle.real_roots(polynomial) if polynomial else [])
            due = sorted([number for number in due if oracle.sign(abs(number) - 1) < 0])
            due = [number for index, number in enumerate(due) if index == 0 or oracle.sign(number - due[index - 1]) != 0]
            told = critical_notches(geared)
            self.assertEqual(len(told), len(due), geared)
            for point, number in zip(told, due):
                self.assertTrue(is_point(point))
                self.assertEqual(oracle.sign(oracle.number(point) - number), 0, geared)
            for first, second in zip(((-1, 1),) + told, told + ((1, 1),)):
                self.assertEqual(compare_points(first, second), -1)

    def test_each_kind_of_polynomial_alone(self):
        # Roots that just one of them has: found by hand, and told.
        steep = (1, (0, 0), (2, 0), (0, 0), (1, 9, 9, 9), 1)
        self.assertEqual(critical_notches(geared_of(steep)), ((-1, 2), (1, 2)))
        # [F, T] with a lap: the line x = 1 passes the place (1, 0) at 1/2 of a turned one, and the opposite place at - 1/2.
        leant = (1, (0, 9), (2, 0), (0, 0), (1, 99, 99, 99), 1)
        self.assertEqual(critical_notches(geared_of(leant)), ((-1, 2), (1, 2)))
        # Two lines that meet on the circle, and two that become one direction.
        for row in (((0, 9), (2, 0), (1, 99, 99, 99)), ((9, 1), (0, 3), (2, 99, 99, 99))):
            link = (1, row[0], row[1], (0, 0), row[2], 1)
            other = (1, (0, 9), (0, 0), (0, 0), (99, 99, 99, 99), 1)
            for geared in (geared_of(link, other, turns=((1, 0), (1, 0))), geared_of(link, link)):
                told = critical_notches(geared)
                for polynomial in due_polynomials(geared):
                    for root in roots_of(polynomial) if polynomial else ():
                        if compare_points(root, (-1, 1)) > 0 and compare_points(root, (1, 1)) < 0:
                            self.assertIn(0, [compare_points(root, point) for point in told])
                for point in told:
                    self.assertIn(0, [sign_at(polynomial, point) for polynomial in due_polynomials(geared) if polynomial])


class Zones(unittest.TestCase):
    def check(self, geared):
        ends = ((-1, 1),) + critical_notches(geared) + ((1, 1),)
        pairs = list(zip(ends, ends[1:]))
        found = set()
        for sense in (1, -1):
            zones = starting_zones(geared, sense)
            self.assertEqual([pair for pair in pairs if pair in zones], list(zones), geared)
            for low, high in pairs:
                due = (low, high) in zones
                found.add(due)
                for notch in ratios_within(low, high):
                    self.assertIs(starts_everywhere(engine_at(geared, notch), sense), due, (geared, sense, low, high, notch))
            for notch, is_meant in ((any_starting_notch(geared, sense), True), (stalling_notch(geared, sense), False)):
                fitting = [pair for pair in pairs if (pair in zones) is is_meant]
                if notch is None:
                    self.assertEqual(fitting, [], (geared, sense, is_meant))
                else:
                    self.assertIs(starts_at(geared=geared, sense=sense, notch=notch), is_meant)
                    places = [compare_points(notch, low) > 0 and compare_points(notch, high) < 0 for low, high in fitting]
                    self.assertEqual(places.count(True), 1, (geared, sense, notch))
        return found

    def test_told(self):
        self.assertEqual(starting_zones(PAIR, 1), (((0, 1), (1, 1)),))
        self.assertEqual(starting_zones(geared=PAIR, sense=-1), (((-1, 1), (0, 1)),))
        self.assertEqual(starting_zones(geared_of(STEADY, STEADY), 1), (ENDS,))
        self.assertEqual(starting_zones(geared_of(STEADY, STEADY), -1), ())
        zones = starting_zones(MIDDLE, 1)
        low, high = critical_notches(MIDDLE)
        self.assertEqual(zones, (((-1, 1), low), (high, (1, 1))))
        self.assertEqual(starting_zones(MIDDLE, -1), ((low, high),))
        self.assertEqual((stalling_notch(geared_of(STEADY, STEADY), 1), any_starting_notch(geared=geared_of(STEADY, STEADY), sense=-1)), (None, None))
        self.assertIsNotNone(stalling_notch(geared=geared_of(STEADY, STEADY), sense=-1))

    def test_at_critical_notches_beside_them_and_at_the_ends(self):
        for sense in (1, -1):
            for notch, due in (
                ((0, 1), 0), ((1, GREAT), 1), ((-1, GREAT), -1), ((1, 1), 1), ((-1, 1), -1), ((1, 2), 1), ((-2, 3), -1),
            ):
                self.assertIs(starts_at(PAIR, sense, notch), due == sense)
            for n in (1, -1):
                self.assertIs(starts_at(MIDDLE, sense, (n, 1)), sense == 1)
                for end in (0, 1):
                    inner, outer = enclosed(critical_notches(MIDDLE)[end], (1, GREAT))[:: 1 if end else -1]
                    self.assertIs(starts_at(MIDDLE, sense, inner), sense == -1)
                    self.assertIs(starts_at(MIDDLE, sense, outer), sense == 1)

    def test_started_at_one_critical_notch_alone_or_not_there_alone(self):
        # The eccentrics are (0, 1) and (t, 1): a lap of the exhaust that is touched at t = 0 alone is critical, and stops nothing.
        touched = (1, (0, 1), (1, 0), (0, 0), (0, 1, 0, 1), 1)
        geared = geared_of(touched, touched)
        self.check(geared)
        self.assertIn((0, 1), critical_notches(geared))
        self.assertTrue(starts_at(geared, 1, (0, 1)))
        # (0, t t): it starts forward on both sides of 0 and not at 0.
        pressed = (1, (0, 0), (0, 0), (0, 1), (0, 0, 0, 0), 1)
        geared = geared_of(pressed, pressed)
        self.assertEqual(starting_zones(geared, 1), (((-1, 1), (0, 1)), ((0, 1), (1, 1))))
        self.assertEqual([starts_at(geared, sense, (0, 1)) for sense in (1, -1)], [False, False])
        self.assertEqual(stalling_notch(geared, 1), None)

    def test_against_engines_within(self):
        found = set()
        for geared in some_geared(6, 84) + starting_geared(12, 85) + [LATE, MIDDLE, PAIR, ONE]:
            found |= self.check(geared)
        self.assertEqual(found, {True, False})

    def test_one_cylinder_and_cranks_in_one_line_never_start(self):
        in_line = [
            (form, tuple((turn, weight, link) for turn, (_, weight, link) in zip(((2, 1), turn_sum(form, (2, 1), (0, 1))), gears)))
            for form, gears in some_geared(6, 87, (2,))
        ]
        for geared in some_geared(6, 86, (1,)) + in_line:
            for sense in (1, -1):
                self.assertEqual(starting_zones(geared, sense), ())
                self.assertIsNone(any_starting_notch(geared, sense))
                notch = stalling_notch(geared, sense)
                self.assertLessEqual(pull_sign(engine_at(geared, notch), dead_angle(engine_at(geared, notch), sense)) * sense, 0)
                self.assertIs(starts_at(geared, sense, (0, 1)), False)

    def test_crossed_links_lead_to_the_mirrored_zones(self):
        for geared in starting_geared(6, 88):
            other = (1, tuple((turn, weight, crossed(link)) for turn, weight, link in geared[1]))
            self.assertEqual(len(critical_notches(other)), len(critical_notches(geared)))
            for sense in (1, -1):
                zones, others = starting_zones(geared, sense), starting_zones(other, sense)
                self.assertEqual(len(zones), len(others))
                for (low, high), (far_low, far_high) in zip(zones, others[::-1]):
                    self.assertEqual(oracle.sign(oracle.number(low) + oracle.number(far_high)), 0)
                    self.assertEqual(oracle.sign(oracle.number(high) + oracle.number(far_low)), 0)

    def test_slipped_half_a_turn_they_start_the_other_way(self):
        # With all laps 0 the opposite valve takes steam at the other end.
        for geared in [PAIR, MIDDLE, geared_of(STEADY, STEADY)]:
            other = (1, tuple((turn, weight, turned_link(link, (0, 1))) for turn, weight, link in geared[1]))
            for sense in (1, -1):
                self.assertEqual(starting_zones(other, sense), starting_zones(geared, -sense))

    def test_claims_of_zones(self):
        bounds = NOTCHES + ((1, GREAT), (-1, GREAT), (4, 7), (-4, 7), (GREAT - 1, GREAT))
        for geared in (PAIR, MIDDLE, LATE, geared_of(STEADY, STEADY)):
            told = critical_notches(geared)
            for low in bounds:
                for high in bounds:
                    for sense in (1, -1):
                        if low[0] * high[1] < high[0] * low[1]:
                            is_free = not any(compare_points(low, point) < 0 and compare_points(point, high) < 0 for point in told)
                            due = is_free and starts_at(geared, sense, ratio_between(low, high))
                            self.assertEqual(certify_zone(geared, sense, low, high), (("zone" if due else "no zone", geared, sense, low, high), ()))
                        else:
                            with self.assertRaises(InvalidNotch) as error:
                                certify_zone(geared, sense, low, high)
                            self.assertIs(error.exception.given, high)

    def test_huge_numbers(self):
        link = (1, (0, -1), (0, GREAT), (0, 0), (0, 0, 0, 0), 1)
        geared = geared_of(link, link)
        self.assertEqual(critical_notches(geared), ((1, GREAT),))
        self.assertEqual(starting_zones(geared, 1), (((1, GREAT), (1, 1)),))
        self.assertEqual([starts_at(geared, -1, notch) for notch in ((1, GREAT + 1), (1, GREAT), (0, 1))], [True, False, True])


if __name__ == "__main__":
    unittest.main()
