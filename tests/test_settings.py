"""Settings: moved, slipped, thrown, opposite, evened; links crossed, moved, turned, thrown."""

import unittest
from fractions import Fraction
from math import gcd
from random import Random

from steamlinks.errors import InvalidRatio, InvalidTurn
from steamlinks.links import lead_at, valve_at
from steamlinks.places import opposite_angle, turn_sum
from steamlinks.settings import crossed, even_release_shift, even_shift, evened, moved, moved_link, opposite, thrown, thrown_link, turned_link
from steamlinks.valves import event_angle, is_valve, leads, state_at, turned_valve
from tests import oracle
from tests.samples import GREAT, NOTCHES, TURNS, angles_up_to, some_links, some_valves

SLIDE = (1, (3, 4), (3, 0, 3, 0), 2)
LINK = (1, (0, 4), (3, 0), (0, 0), (1, 0, 1, 0), 1)
RATIOS = ((0, 1), (1, 1), (-1, 1), (1, 2), (-3, 2), (2, 3), (-7, 5), (4, 1))
THROWS = ((1, 1), (2, 1), (1, 2), (3, 2), (5, 7), (4, 1))
SOME = some_valves(60, 71)
LINKS = some_links(40, 72)


def numbers_of(valve):
    return valve[1] + valve[2] + (valve[3],)


def is_reduced(thing):
    """Whether the numbers of a valve or a link are reduced."""
    numbers = [number for part in thing[1:] for number in (part if isinstance(part, tuple) else (part,))]
    return gcd(*numbers) == 1


def scaled_as(numbers):
    """The numbers as parts of the last one, whatever they have been reduced by."""
    return [Fraction(number) / numbers[-1] for number in numbers]


class Moved(unittest.TestCase):
    def test_told(self):
        self.assertEqual(moved(SLIDE, (1, 2)), (1, (6, 8), (5, 1, 7, -1), 4))
        self.assertEqual(moved(valve=SLIDE, ratio=(-1, 1)), (1, (3, 4), (4, -1, 2, 1), 2))
        self.assertEqual(moved(SLIDE, (0, 1)), SLIDE)
        self.assertEqual(moved((1, (2, 4), (3, 1, 1, 3), 2), (1, 1)), (1, (1, 2), (1, 1, 1, 1), 1))
        self.assertEqual(moved(SLIDE, (GREAT, 1)), (1, (3, 4), (3 - GREAT, GREAT, 3 + GREAT, -GREAT), 2))

    def test_levels(self):
        for valve in SOME:
            for n, m in RATIOS:
                d = Fraction(n, m)
                sh, xh, sc, xc = valve[2]
                due = [Fraction(x) / valve[3] for x in valve[1] + (sh - d, xh + d, sc + d, xc - d, valve[3])]
                told = moved(valve, (n, m))
                self.assertEqual(scaled_as(numbers_of(told)), due)
                self.assertTrue(is_valve(told) and is_reduced(told) and told[0] == valve[0])

    def test_states_are_those_of_a_valve_that_stands_elsewhere(self):
        chance = Random(73)
        for valve in SOME[:25]:
            form, vector, (sh, xh, sc, xc), _ = valve
            for n, m in RATIOS:
                told = moved(valve, (n, m))
                for angle in chance.sample(angles_up_to(form, 2), 5):
                    x = oracle.along(form, oracle.arrow(angle), vector) * m + n
                    head = (oracle.sign(x - sh * m) > 0, oracle.sign(-x - xh * m) > 0)
                    crank = (oracle.sign(-x - sc * m) > 0, oracle.sign(x - xc * m) > 0)
                    names = {(True, False): "steam", (False, True): "exhaust", (True, True): "both", (False, False): "closed"}
                    self.assertEqual((state_at(told, "head", angle), state_at(told, "crank", angle)), (names[head], names[crank]))

    def test_there_and_back_and_by_a_sum(self):
        for valve in SOME:
            first = moved(valve, (1, 2))
            # A length of the first valve is so many times as long in the numbers of the moved one.
            longer = Fraction(first[3], valve[3])
            back = -Fraction(1, 2) * longer
            self.assertEqual(moved(first, (back.numerator, back.denominator)), valve)
            on = Fraction(2, 3) * longer
            self.assertEqual(moved(first, (on.numerator, on.denominator)), moved(valve, (7, 6)))


class Thrown(unittest.TestCase):
    def test_told(self):
        self.assertEqual(thrown(SLIDE, (1, 2)), (1, (3, 4), (6, 0, 6, 0), 4))
        self.assertEqual(thrown(valve=SLIDE, ratio=(2, 1)), (1, (6, 8), (3, 0, 3, 0), 2))
        self.assertEqual(thrown((1, (3, 5), (2, 0, 2, 0), 2), (2, 1)), (1, (3, 5), (1, 0, 1, 0), 1))
        self.assertEqual(thrown((1, (0, 0), (2, 0, 1, 0), 2), (7, 3)), (1, (0, 0), (2, 0, 1, 0), 2))

    def test_the_eccentric_alone(self):
        for valve in SOME:
            for n, m in THROWS:
                told = thrown(valve, (n, m))
                due = [Fraction(n * x, m) / valve[3] for x in valve[1]] + [Fraction(x) / valve[3] for x in valve[2] + (valve[3],)]
                self.assertEqual(scaled_as(numbers_of(told)), due)
                self.assertTrue(is_valve(told) and is_reduced(told))
                self.assertEqual(thrown(told, (m, n)), valve)

    def test_refused(self):
        for ratio in ((0, 1), (-1, 1), (-GREAT, 1)):
            for call, thing in ((thrown, SLIDE), (thrown_link, LINK)):
                with self.assertRaises(InvalidRatio) as told:
                    call(thing, ratio)
                self.assertIs(told.exception.given, ratio)


class Opposite(unittest.TestCase):
    def test_told(self):
        self.assertEqual(opposite(SLIDE), (1, (-3, -4), (3, 0, 3, 0), 2))
        for valve in SOME:
            self.assertEqual(opposite(valve=opposite(valve)), valve)
            self.assertEqual(opposite(valve), turned_valve(valve, (0, 1)))
            for angle in angles_up_to(valve[0], 1):
                for end in ("head", "crank"):
                    # It does what the valve does half a turn on.
                    self.assertEqual(state_at(opposite(valve), end, angle), state_at(valve, end, opposite_angle(angle)))


class Evened(unittest.TestCase):
    def test_told(self):
        self.assertEqual((even_shift(SLIDE), even_release_shift(SLIDE)), ((0, 1), (0, 1)))
        self.assertEqual(even_shift(moved(SLIDE, (1, 2))), (-1, 1))
        self.assertEqual((even_shift(valve=(1, (3, 4), (3, 1, 2, 4), 2)), even_release_shift(valve=(1, (3, 4), (3, 1, 2, 4), 2))), ((1, 2), (3, 2)))
        self.assertEqual(evened((1, (3, 4), (3, 1, 2, 4), 2)), (1, (6, 8), (5, 3, 5, 7), 4))
        self.assertEqual(evened(valve=moved(SLIDE, (1, 2))), SLIDE)

    def test_leads(self):
        for valve in SOME:
            told = evened(valve)
            self.assertEqual(told, moved(valve, even_shift(valve)))
            self.assertEqual(leads(told)[0], leads(told)[1])
            self.assertEqual(evened(told), told)
            self.assertEqual(even_shift(told), (0, 1))
            for n, m in RATIOS:
                first, second = leads(moved(valve, (n, m)))
                self.assertIs(first == second, (n, m) == even_shift(valve))

    def test_exhaust_levels(self):
        for valve in SOME:
            told = moved(valve, even_release_shift(valve))
            self.assertEqual(told[2][1], told[2][3])
            self.assertEqual(even_release_shift(told), (0, 1))
            for ratio in RATIOS:
                other = moved(valve, ratio)
                self.assertIs(other[2][1] == other[2][3], ratio == even_release_shift(valve))

    def test_evened_cutoffs_are_half_a_turn_apart(self):
        met = 0
        for valve in SOME:
            told = evened(valve)
            head, crank = event_angle(told, "head", "cutoff"), event_angle(told, "crank", "cutoff")
            if head is not None:
                self.assertEqual(opposite_angle(head), crank)
                met += 1
            shifted = moved(told, (1, 3))
            pair = [event_angle(shifted, end, "cutoff") for end in ("head", "crank")]
            if None not in pair:
                self.assertFalse(oracle.is_same(oracle.arrow(opposite_angle(pair[0])), oracle.arrow(pair[1])))
        self.assertGreater(met, 10)


class Links(unittest.TestCase):
    def test_told(self):
        self.assertEqual(crossed(LINK), (1, (0, 4), (-3, 0), (0, 0), (1, 0, 1, 0), 1))
        self.assertEqual(moved_link(link=LINK, ratio=(1, 2)), (1, (0, 8), (6, 0), (0, 0), (1, 1, 3, -1), 2))
        self.assertEqual(moved_link((1, (0, 2), (4, 0), (0, 0), (1, 1, 1, 1), 2), (1, 1)), (1, (0, 1), (2, 0), (0, 0), (0, 1, 1, 0), 1))
        self.assertEqual(turned_link(LINK, (1, 1)), (1, (-4, 0), (0, 3), (0, 0), (1, 0, 1, 0), 1))
        self.assertEqual(turned_link(link=LINK, turn=(2, 1)), (1, (-16, 12), (9, 12), (0, 0), (5, 0, 5, 0), 5))
        self.assertEqual(thrown_link(link=LINK, ratio=(2, 3)), (1, (0, 8), (6, 0), (0, 0), (3, 0, 3, 0), 3))
        self.assertEqual(thrown_link((2, (1, 1), (1, 0), (0, 1), (2, 4, 2, 0), 2), (2, 1)), (2, (1, 1), (1, 0), (0, 1), (1, 2, 1, 0), 1))

    def test_crossed(self):
        for link in LINKS:
            self.assertEqual(crossed(link=crossed(link)), link)
            for n, m in NOTCHES:
                self.assertEqual(valve_at(crossed(link), (n, m)), valve_at(link, (-n, m)))

    def test_valves_at_all_notches(self):
        for link in LINKS:
            for ratio in RATIOS[1:4]:
                # One length has other numbers in the link, in its valves and in the moved one: the ports tell how many times.
                told = moved_link(link, ratio)
                self.assertTrue(is_reduced(told))
                for notch in NOTCHES[::3]:
                    lead = Fraction(*lead_at(link, "head", notch)) + Fraction(*ratio)
                    self.assertEqual(Fraction(*lead_at(told, "head", notch)) / told[5], lead / link[5])
                    valve = valve_at(link, notch)
                    shift = Fraction(ratio[0], ratio[1]) * Fraction(valve[3], link[5])
                    self.assertEqual(valve_at(told, notch), moved(valve, (shift.numerator, shift.denominator)))
            for ratio in THROWS:
                told = thrown_link(link, ratio)
                self.assertTrue(is_reduced(told))
                self.assertEqual(thrown_link(told, ratio[::-1]), link)
                for notch in NOTCHES[::3]:
                    self.assertEqual(valve_at(told, notch), thrown(valve_at(link, notch), ratio))
            for turn in TURNS:
                told = turned_link(link, turn)
                self.assertTrue(is_reduced(told))
                for notch in NOTCHES[::3]:
                    self.assertEqual(valve_at(told, notch), turned_valve(valve_at(link, notch), turn))
                self.assertEqual(turned_link(told, (2, 1)), turned_link(link, turn_sum(link[0], turn, (2, 1))))

    def test_refused(self):
        with self.assertRaises(InvalidTurn) as told:
            turned_link(LINK, (0, -1))
        self.assertEqual(told.exception.given, (0, -1))


if __name__ == "__main__":
    unittest.main()
