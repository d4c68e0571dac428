import unittest
from decimal import Decimal
from fractions import Fraction
from math import gcd
from random import Random

from steamlinks.angles import way_angle
from steamlinks.engines import compare_pull, dead_angle, is_above, marks_of, mirrored_engine, pull_sign, pull_vector, starting_arcs
from steamlinks.engines import starts_everywhere, states_at, weak_angle
from steamlinks.errors import Unlike
from steamlinks.places import is_same_place, mirrored_angle, turn_back, turn_sum, way_between
from steamlinks.valves import reversed_valve
from tests import oracle
from tests.samples import FORMS, GREAT, TURNS, angles_up_to, some_valves

ENDS = ("head", "crank")
PLAIN = (1, (0, 1), (0, 0, 0, 0), 1)
ONE = (1, (((1, 0), 1, PLAIN),))
PAIR = (1, (((1, 0), 1, PLAIN), ((1, 1), 1, PLAIN)))
FRONT, TOP, BACK, BOTTOM = (1, 0, 1, 0), (1, -1, 0, 0), (1, 0, -1, 0), (1, 1, 0, 0)
# Three cylinders, each a third of a turn ahead of the next.
THREE = (3, tuple((turn, 1, (3, (0, 1), (0, 0, 0, 0), 1)) for turn in ((1, 0), (1, 1), (1, -1))))
# Late valves: with a lap of the eccentric's half, each end takes steam for a third of the turn.
LAPPED = (3, tuple((turn, 1, (3, (0, 2), (2, 0, 2, 0), 1)) for turn in ((1, 0), (1, 1), (1, -1))))
FOUR = (1, tuple((turn, weight, PLAIN) for turn, weight in (((1, 0), 2), ((1, 1), 1), ((0, 1), 1), ((1, -1), 3))))
# The vector, not in line with the crank: pushes against the crank here and there.
SKEW = (1, (((1, 0), 1, (1, (1, 2), (0, 0, 0, 0), 1)), ((1, 1), 1, (1, (1, 2), (0, 0, 0, 0), 1))))
# Steam at the head end all round, without an eccentric and so without marks; alone, and with another crank.
STEADY = (1, (((1, 0), 1, (1, (0, 0), (-1, 0, 0, 0), 1)),))
STEADIER = (2, (((2, 1), 2, (2, (0, 0), (-1, 0, 0, 0), 1)), ((1, 1), 1, (2, (1, 1), (-2, 9, 9, 9), 1))))
MANY = (ONE, PAIR, THREE, LAPPED, FOUR, SKEW, STEADY, STEADIER)


def turned_place(form, place, turn):
    """The place ahead by the turn, by its cosine and sine."""
    p, q = turn
    size = p * p + form * q * q
    cosine, sine = Decimal(p * p - form * q * q) / size, 2 * p * q * Decimal(form).sqrt() / size
    return (cosine * place[0] - sine * place[1], sine * place[0] + cosine * place[1])


def pushes(engine, place):
    """For each cylinder 1, 0 or -1."""
    told = []
    for turn, _, valve in engine[1]:
        own = turned_place(engine[0], place, turn)
        head, crank = [oracle.state(valve, end, own) == "steam" for end in ENDS]
        told.append(head - crank)
    return told


def pull(engine, place):
    """Straight from point 27."""
    moment = Decimal(0)
    for push, (turn, weight, _) in zip(pushes(engine, place), engine[1]):
        moment += push * weight * turned_place(engine[0], place, turn)[1]
    return moment * Decimal(engine[0]).sqrt()


def due_marks(engine):
    """The arrows of all marks, each once, in the turn order."""
    form = engine[0]
    found = []
    for turn, _, (_, (a, b), laps, _) in engine[1]:
        size = oracle.norm(form, (a, b))
        for level in (laps[0], -laps[1], -laps[2], laps[3]):
            if size and level * level <= size:
                for vector, height in (((a, b), level), ((-a, -b), -level)):
                    place = turned_place(form, oracle.arrow((form,) + vector + (height,)), (turn[0], -turn[1]))
                    if not any([oracle.is_same(place, other) for other in found]):
                        found.append(place)
    return sorted(found, key=oracle.position)


def some_engines(many, seed, most=3):
    chance = Random(seed)
    valves = some_valves(10 * many, seed, most)
    found = []
    while len(found) < many:
        form = chance.choice(FORMS)
        fitting = [valve for valve in valves if valve[0] == form]
        cylinders = []
        for _ in range(chance.randint(1, 4)):
            valve = chance.choice(fitting)
            if chance.random() < 0.5:
                # Valves that work: the eccentric well ahead of the crank, small laps.
                valve = (form, (chance.randint(0, 1), chance.randint(2, 3)), (chance.randint(0, 1), 0, chance.randint(0, 1), 0), 1)
            cylinders.append((chance.choice(TURNS[:7]), chance.randint(1, 3), valve))
        found.append((form, tuple(cylinders)))
    return found


def angles_round(engine):
    """Marks, ways between them, and other angles of all kinds."""
    form = engine[0]
    marks = list(marks_of(engine))
    between = [way_angle(form, way_between(low, high)) for low, high in zip(marks, marks[1:] + marks[:1])]
    return marks + between + [way_angle(form, way) for way in ((1, 0), (0, 1), (-1, 0), (0, -1), (3, 2), (-2, 5))]


SOME = some_engines(60, 61)


class States(unittest.TestCase):
    def test_told(self):
        self.assertEqual(states_at(PAIR, FRONT), (("closed", "closed"), ("steam", "exhaust")))
        self.assertEqual(states_at(engine=PAIR, angle=TOP), (("steam", "exhaust"), ("closed", "closed")))
        self.assertEqual(states_at((1, (((1, 0), 1, (1, (0, 1), (-1, -1, 0, 0), 1)),)), FRONT), (("both", "closed"),))

    def test_by_own_places(self):
        for engine in SOME + list(MANY):
            for angle in angles_round(engine):
                place = oracle.arrow(angle)
                due = tuple(
                    tuple(oracle.state(valve, end, turned_place(engine[0], place, turn)) for end in ENDS) for turn, _, valve in engine[1]
                )
                self.assertEqual(states_at(engine, angle), due, (engine, angle))


class Pulls(unittest.TestCase):
    def test_told(self):
        self.assertEqual([pull_vector(PAIR, FRONT), pull_vector(PAIR, (1, 0, 2, 1)), pull_vector(ONE, FRONT)], [(1, 0, 1), (1, 1, 1), (0, 0, 1)])
        self.assertEqual([pull_sign(PAIR, FRONT), pull_sign(ONE, FRONT), pull_sign(engine=ONE, angle=TOP)], [1, 0, 1])
        engine = (2, (((2, 1), 5, (2, (0, 1), (-1, 9, 9, 9), 1)), ((1, 0), 2, (2, (0, 1), (9, 9, -1, 9), 1))))
        # 5 * (8, 2) / 6 - 2 * (0, 1)
        self.assertEqual(pull_vector(engine=engine, angle=(2, 0, 1, 0)), (20, -1, 3))
        # Blowing through, an end does not push; with steam at both ends the cylinder does not either.
        self.assertEqual(pull_vector((1, (((1, 0), 1, (1, (0, 1), (-2, -2, 9, 9), 1)),)), TOP), (0, 0, 1))
        self.assertEqual(pull_vector((1, (((1, 0), 1, (1, (0, 1), (-2, 9, -2, 9), 1)),)), TOP), (0, 0, 1))
        self.assertEqual(pull_vector((1, (((1, 0), 7, (1, (0, 1), (-2, -2, -2, 9), 1)),)), TOP), (0, -7, 1))

    def test_vector(self):
        for engine in SOME + list(MANY):
            form = engine[0]
            for angle in angles_round(engine):
                due = [Fraction(0), Fraction(0)]
                for push, ((p, q), weight, _) in zip(pushes(engine, oracle.arrow(angle)), engine[1]):
                    due[0] += Fraction(push * weight * 2 * form * p * q, p * p + form * q * q)
                    due[1] += Fraction(push * weight * (p * p - form * q * q), p * p + form * q * q)
                first, second, parts = pull_vector(engine, angle)
                self.assertTrue(parts > 0 and gcd(first, second, parts) == 1)
                self.assertEqual([Fraction(first, parts), Fraction(second, parts)], due, (engine, angle))

    def test_signs(self):
        chance = Random(62)
        for engine in SOME + list(MANY):
            for angle in angles_round(engine) + chance.sample(angles_up_to(engine[0], 2), 6):
                due = pull(engine, oracle.arrow(angle))
                self.assertEqual(pull_sign(engine, angle), oracle.sign(due), (engine, angle))
                for ratio in ((0, 1), (1, 1), (-1, 1), (1, 2), (3, 1), (-7, 3)):
                    self.assertEqual(compare_pull(engine, angle, ratio), oracle.sign(due * ratio[1] - ratio[0]), (engine, angle, ratio))

    def test_compared_with_ratios_hardly_beside(self):
        self.assertEqual([compare_pull(PAIR, FRONT, ratio) for ratio in ((1, 1), (GREAT + 1, GREAT), (GREAT - 1, GREAT))], [0, -1, 1])
        self.assertEqual(compare_pull(engine=PAIR, angle=(1, 1, 1, 1), ratio=(0, 1)), 1)
        huge = (1, (((1, 0), GREAT, PLAIN), ((GREAT, 1), 1, PLAIN)))
        self.assertEqual([compare_pull(huge, TOP, (GREAT, 1)), compare_pull(huge, TOP, (GREAT + 1, 1))], [1, -1])

    def test_refused(self):
        for call in (states_at, pull_vector, pull_sign, lambda engine, angle: compare_pull(engine, angle, (0, 1))):
            with self.assertRaises(Unlike) as told:
                call(PAIR, (2, 0, 1, 0))
            self.assertEqual(told.exception.given, (2, 0, 1, 0))


class Marks(unittest.TestCase):
    def test_told(self):
        for engine, due in ((ONE, 2), (PAIR, 4), (THREE, 6), (FOUR, 4), (LAPPED, 18)):
            self.assertEqual(len(marks_of(engine)), due)
            self.assertEqual(len(marks_of(engine=engine)), due)
        # Levels that are touched, at either side; levels that are out of reach; no eccentric.
        self.assertEqual(len(marks_of((1, (((1, 0), 1, (1, (3, 4), (5, 9, 9, 9), 1)),)))), 1)
        self.assertEqual(len(marks_of((1, (((1, 0), 1, (1, (3, 4), (9, 5, 5, 9), 1)),)))), 1)
        self.assertEqual(len(marks_of((1, (((1, 0), 1, (1, (3, 4), (5, 5, 9, 9), 1)),)))), 2)
        self.assertEqual(marks_of((1, (((1, 0), 1, (1, (3, 4), (9, 9, 9, 9), 1)),))), ())
        self.assertEqual(marks_of((1, (((1, 0), 1, (1, (0, 0), (0, 0, 0, 0), 1)),))), ())
        self.assertEqual(len(marks_of((1, (((1, 0), 1, (1, (0, 0), (0, 0, 0, 0), 1)), ((1, 1), 1, PLAIN))))), 2)

    def test_all(self):
        for engine in SOME + list(MANY):
            found, due = [oracle.arrow(mark) for mark in marks_of(engine)], due_marks(engine)
            self.assertEqual(len(found), len(due), engine)
            for place, other in zip(found, due):
                self.assertTrue(oracle.is_same(place, other), engine)


class Starting(unittest.TestCase):
    def samples(self, engine, arcs, chance):
        """Angles round, and those at the ends of arcs and between the ends."""
        ends = [arc[index] for arc in arcs for index in (0, 2) if arc[index] is not None]
        between = [way_angle(engine[0], way_between(low, high)) for low in ends for high in chance.sample(ends, min(2, len(ends)))]
        return angles_round(engine) + ends + between

    def check_arcs(self, engine, sense, chance):
        arcs = starting_arcs(engine, sense)
        message = (engine, sense, arcs)
        for angle in self.samples(engine, arcs, chance):
            place = oracle.arrow(angle)
            inside = [oracle.in_arc(place, arc) for arc in arcs]
            due = oracle.sign(pull(engine, place)) == sense
            self.assertIs(any(inside), due, (message, angle))
            self.assertLessEqual(sum(inside), 1)
        begins = [oracle.position(oracle.arrow(arc[0])) for arc in arcs if arc[0] is not None]
        self.assertEqual(begins, sorted(begins), message)
        for arc, following in zip(arcs, arcs[1:] + arcs[:1]):
            # Between an arc and the next one something is left out.
            if arc[0] is not None and oracle.is_same(oracle.arrow(arc[2]), oracle.arrow(following[0])):
                self.assertFalse((arc[3] or following[1]) and len(arcs) > 1, message)
                # One arc with one place for both ends is this place alone, or all but it.
                self.assertTrue(arc[3] is following[1], message)
        everywhere = arcs == ((None, True, None, True),)
        self.assertIs(starts_everywhere(engine, sense), everywhere, message)
        angle = dead_angle(engine, sense)
        if everywhere:
            self.assertIsNone(angle)
        else:
            self.assertTrue(pull_sign(engine, angle) * sense <= 0, message)
            self.assertTrue(oracle.sign(pull(engine, oracle.arrow(angle))) * sense <= 0, message)
        return arcs

    def test_arcs(self):
        chance = Random(63)
        ends = set()
        for engine in SOME + list(MANY):
            for sense in (1, -1):
                for arc in self.check_arcs(engine, sense, chance):
                    ends.add(arc[1::2])
        self.assertEqual(ends, {(True, True), (True, False), (False, True), (False, False)})

    def test_told(self):
        self.assertEqual(starting_arcs(ONE, -1), ())
        self.assertEqual(starting_arcs(engine=PAIR, sense=1), ((None, True, None, True),))
        for sense, ends in ((1, (FRONT, BACK)), (-1, (BACK, FRONT))):
            (arc,) = starting_arcs(STEADY, sense)
            self.assertTrue(is_same_place(arc[0], ends[0]) and is_same_place(arc[2], ends[1]))
            self.assertEqual(arc[1::2], (False, False))
        arcs = starting_arcs(ONE, 1)
        self.assertEqual([arc[1::2] for arc in arcs], [(False, False), (False, False)])
        self.assertEqual([oracle.position(oracle.arrow(arc[0])) for arc in arcs], [0, 2])
        for engine, forward, backward in (
            (ONE, False, False), (PAIR, True, False), (THREE, True, False), (FOUR, True, False), (mirrored_engine(PAIR), False, True),
            # Cranks in one line.
            ((1, (((1, 0), 1, PLAIN), ((0, 1), 5, PLAIN))), False, False), ((1, (((1, 1), 1, PLAIN), ((1, -1), 5, PLAIN))), False, False),
            # All four cylinders as one.
            ((1, (((1, 1), 3, PLAIN),) * 4), False, False), ((1, (((1, 0), 1, (1, (0, 0), (0, 0, 0, 0), 1)),)), False, False),
        ):
            self.assertIs(starts_everywhere(engine, 1), forward, engine)
            self.assertIs(starts_everywhere(engine=engine, sense=-1), backward, engine)
            self.assertIs(dead_angle(engine=engine, sense=1) is None, forward)
            self.assertIs(dead_angle(engine, -1) is None, backward)

    def test_hangs_at_single_places(self):
        # The head end of this valve takes steam between the ways (1, 0) and (0, 1); a quarter of a turn ahead
        # the other crank's end takes steam as the first one ceases to: where they meet, none does.
        valve, other = (1, (1, 1), (1, 9, 0, 9), 1), (1, (0, 2), (1, 9, 9, 9), 1)
        two = (1, (((1, 0), 1, valve), ((1, 1), 1, valve)))
        three = (1, two[1] + (((1, 0), 1, other),))
        for engine, due in ((two, ((FRONT, TOP), (TOP, FRONT))), (three, ((FRONT, FRONT),))):
            arcs = self.check_arcs(engine, 1, Random(64))
            self.assertEqual([arc[1::2] for arc in arcs], [(False, False)] * len(due))
            for arc, ends in zip(arcs, due):
                self.assertTrue(is_same_place(arc[0], ends[0]) and is_same_place(arc[2], ends[1]))
            self.assertEqual(self.check_arcs(engine, -1, Random(64)), ())
        self.assertTrue(is_same_place(dead_angle(three, 1), FRONT))
        for ratio in ((0, 1), (-1, GREAT)):
            self.assertIs(is_above(three, 1, ratio), ratio[0] < 0)

    def test_one_place_left_out(self):
        # The head end takes steam everywhere but at the touch, the place of the way (0, 1).
        engine = (1, (((1, 0), 1, (1, (0, -1), (-1, 9, 9, 9), 1)),))
        for sense, due in ((1, ((FRONT, TOP), (TOP, BACK))), (-1, ((BACK, FRONT),))):
            arcs = self.check_arcs(engine, sense, Random(65))
            self.assertEqual([arc[1::2] for arc in arcs], [(False, False)] * len(due))
            for arc, ends in zip(arcs, due):
                self.assertTrue(is_same_place(arc[0], ends[0]) and is_same_place(arc[2], ends[1]))
        self.assertEqual([pull_sign(engine, angle) for angle in (TOP, (1, -1, 1, 0), BOTTOM)], [0, 1, -1])
        # The pull is 0 there, and - 1 at the least.
        self.assertEqual([is_above(engine, 1, ratio) for ratio in ((-1, 1), (-GREAT - 1, GREAT))], [False, True])
        self.assertTrue(is_same_place(weak_angle(engine, 1, (-1, 1)), BOTTOM))

    def test_a_cylinder_without_an_eccentric(self):
        # It pushes nowhere; nor does it hold up the others.
        engine = (1, PAIR[1] + (((1, 0), 3, (1, (0, 0), (1, 0, 1, 0), 1)),))
        self.assertIs(starts_everywhere(engine, 1), True)
        self.assertEqual(starting_arcs(engine, -1), ())

    def test_ahead_and_back_with_unlike_eccentrics(self):
        # Two cranks a quarter of a turn apart, each with an eccentric at an eighth of a turn from it.
        engine = (1, (((1, 0), 1, (1, (-1, 1), (0, 0, 0, 0), 1)), ((1, 1), 1, (1, (1, 1), (0, 0, 0, 0), 1))))
        for sense in (1, -1):
            self.check_arcs(engine, sense, Random(66))

    def test_one_crank_or_cranks_in_one_line_never_start_everywhere(self):
        for engine in some_engines(40, 67):
            form, cylinders = engine
            for one in [cylinders[:1], tuple((turn, weight, valve) for turn, (_, weight, valve) in zip(((1, 0), (0, 1)) * 2, cylinders))]:
                for sense in (1, -1):
                    self.assertIs(starts_everywhere((form, one), sense), False)
                    self.assertLessEqual(pull_sign((form, one), dead_angle((form, one), sense)) * sense, 0)


class Above(unittest.TestCase):
    def test_told(self):
        for ratio, due in (((9, 10), True), ((1, 1), False), ((0, 1), True), ((-5, 1), True), ((GREAT - 1, GREAT), True), ((2, 1), False)):
            self.assertIs(is_above(PAIR, 1, ratio), due)
            self.assertIs(is_above(engine=PAIR, sense=1, ratio=ratio), due)
            self.assertIs(is_above(mirrored_engine(PAIR), -1, ratio), due)
            angle = weak_angle(PAIR, 1, ratio)
            self.assertIs(angle is None, due)
            if not due:
                self.assertLessEqual(compare_pull(PAIR, weak_angle(engine=PAIR, sense=1, ratio=ratio), ratio), 0)
        self.assertIs(is_above(PAIR, -1, (-1, 1)), False)
        self.assertIs(is_above(PAIR, -1, (-2, 1)), True)
        # The pull of the pair is at most the root of 2, at the middles of the quarters.
        self.assertIs(is_above(PAIR, -1, (-7, 5)), False)
        self.assertIs(is_above(PAIR, -1, (-3, 2)), True)
        self.assertEqual([is_above(STEADY, 1, ratio) for ratio in ((-1, 1), (-GREAT - 1, GREAT), (1 - GREAT, GREAT))], [False, True, False])
        # Nothing pulls: above what is below 0, and nothing else.
        still = (1, (((1, 0), 1, (1, (0, 0), (0, 0, 0, 0), 1)),))
        self.assertEqual([is_above(still, 1, ratio) for ratio in ((-1, GREAT), (0, 1), (1, GREAT))], [True, False, False])
        self.assertIsNotNone(weak_angle(still, -1, (0, 1)))

    def test_against_decimals(self):
        for engine in SOME + list(MANY):
            for sense in (1, -1):
                values = [pull(engine, oracle.arrow(angle)) * sense for angle in angles_round(engine)]
                for ratio in ((0, 1), (1, 1), (-1, 1), (-2, 1), (-5, 2), (1, 3), (-9, 1)):
                    angle = weak_angle(engine, sense, ratio)
                    self.assertIs(is_above(engine, sense, ratio), angle is None)
                    if angle is None:
                        self.assertTrue(all([oracle.sign(value * ratio[1] - ratio[0]) > 0 for value in values]), (engine, sense, ratio))
                    else:
                        found = pull(engine, oracle.arrow(angle)) * sense
                        self.assertTrue(oracle.sign(found * ratio[1] - ratio[0]) <= 0, (engine, sense, ratio))

    def test_the_least_pull_at_places_all_round(self):
        steps = [way_angle(form, (c, s)) for form in (1,) for c in range(-9, 10) for s in range(-9, 10) if gcd(c, s) == 1]
        for engine in [engine for engine in SOME if engine[0] == 1][:12]:
            for sense in (1, -1):
                least = min([pull(engine, oracle.arrow(angle)) * sense for angle in steps + angles_round(engine)])
                below = Fraction(least).limit_denominator(1000) - Fraction(1, 3)
                self.assertIs(is_above(engine, sense, (below.numerator, below.denominator)), True, (engine, sense, below))
                above = Fraction(least).limit_denominator(1000) + Fraction(1, 100)
                self.assertIs(is_above(engine, sense, (above.numerator, above.denominator)), False, (engine, sense, above))


class Mirrored(unittest.TestCase):
    def test_told(self):
        self.assertEqual(
            mirrored_engine(engine=PAIR), (1, (((1, 0), 1, (1, (0, -1), (0, 0, 0, 0), 1)), ((1, -1), 1, (1, (0, -1), (0, 0, 0, 0), 1)))),
        )
        self.assertEqual(mirrored_engine((1, (((0, 1), 4, PLAIN),)))[1][0][:2], ((0, 1), 4))

    def test_opposite_pull_at_the_mirrored_place(self):
        for engine in SOME:
            other = mirrored_engine(engine)
            self.assertEqual([cylinder[0] for cylinder in other[1]], [turn_back(cylinder[0]) for cylinder in engine[1]])
            self.assertEqual([cylinder[2] for cylinder in other[1]], [reversed_valve(cylinder[2]) for cylinder in engine[1]])
            self.assertEqual(mirrored_engine(other), engine)
            for angle in angles_round(engine):
                self.assertEqual(pull_sign(other, mirrored_angle(angle)), -pull_sign(engine, angle))
            for sense in (1, -1):
                self.assertIs(starts_everywhere(other, -sense), starts_everywhere(engine, sense))

    def test_turned_engine_starts_as_the_first_one(self):
        for engine in SOME[:20]:
            turned = (engine[0], tuple((turn_sum(engine[0], turn, (2, 1)), weight, valve) for turn, weight, valve in engine[1]))
            for sense in (1, -1):
                self.assertIs(starts_everywhere(turned, sense), starts_everywhere(engine, sense))


if __name__ == "__main__":
    unittest.main()
