"""Wrong settings, what is seen of them, and the fewest looks that tell them apart."""

import unittest
from itertools import combinations
from math import gcd
from random import Random

from steamlinks.alike import are_alike
from steamlinks.angles import way_angle
from steamlinks.errors import InvalidFindings, InvalidLook, InvalidLooks, InvalidWrongs
from steamlinks.looks import any_fewest_looks, blind_pairs, fewest_looks, is_parting, left_by, seen, wrong_valve
from steamlinks.places import way_between
from steamlinks.settings import moved, opposite, thrown
from steamlinks.valves import ENDS, is_valve, state_at, turned_valve
from tests import oracle
from tests.samples import GREAT, TURNS, angles_up_to, some_valves

SLIDE = (1, (3, 4), (3, 0, 3, 0), 2)
FRONT, TOP, BACK = (1, 0, 1, 0), (1, -1, 0, 0), (1, 0, -1, 0)
WRONGS = (("right",), ("moved", (1, 1)), ("moved", (-1, 1)), ("opposite",), ("thrown", (1, 1)))
LOOKS = ((FRONT, "head"), (TOP, "head"), (FRONT, "crank"))
RATIOS = ((0, 1), (1, 1), (-1, 1), (1, 2), (-3, 2), (2, 1), (-4, 1))


def some_wrong(chance):
    word = chance.choice(("right", "moved", "moved", "slipped", "thrown", "opposite"))
    if word == "moved":
        return (word, chance.choice(RATIOS))
    if word == "slipped":
        return (word, chance.choice(TURNS))
    if word == "thrown":
        return (word, chance.choice(((1, 1), (2, 1), (1, 2), (3, 2))))
    return (word,)


def cases(many, seed, least=1, most=6):
    chance = Random(seed)
    found = []
    for valve in some_valves(many, seed):
        found.append((valve, tuple(some_wrong(chance) for _ in range(chance.randint(least, most)))))
    return found


def all_kinds_of_looks(valves):
    """A look at each place at which a valve stands at a level, and one between each two neighbours, at both ends."""
    form = valves[0][0]
    angles = []
    for _, vector, (sh, xh, sc, xc), _ in valves:
        for level in (sh, -xh, -sc, xc):
            for a, b, l in ((vector[0], vector[1], level), (-vector[0], -vector[1], -level)):
                size = a * a + form * b * b
                if l * l < size:
                    angles.append(made(form, a, b, l))
                elif l * l == size and l > 0:
                    angles.append(way_angle(form, reduced_pair(a, b)))
                elif l * l == size and l < 0:
                    angles.append(way_angle(form, reduced_pair(-a, -b)))
    places = sorted(angles, key=lambda angle: oracle.position(oracle.arrow(angle)))
    places = [
        angle for index, angle in enumerate(places)
        if index == 0 or not oracle.is_same(oracle.arrow(angle), oracle.arrow(places[index - 1]))
    ]
    between = [way_angle(form, way_between(*pair)) for pair in zip(places, places[1:] + places[:1])]
    return [(angle, end) for angle in places + between + [(form, 0, 1, 0)] for end in ENDS]


def made(form, a, b, l):
    part = gcd(a, b, l)
    return (form, a // part, b // part, l // part)


def reduced_pair(a, b):
    return (a // gcd(a, b), b // gcd(a, b))


def pairs_by(valves, look):
    states = [state_at(valve, look[1], look[0]) for valve in valves]
    return {pair for pair in combinations(range(len(valves)), 2) if states[pair[0]] != states[pair[1]]}


def least_cover(sets):
    """The least of the shortest tuples of indexes of sets that together are all of them, by trying all."""
    every = set().union(*sets) if sets else set()
    for many in range(len(sets) + 1):
        for chosen in combinations(range(len(sets)), many):
            if set().union(*[sets[index] for index in chosen]) == every:
                return chosen
    raise AssertionError


class Seen(unittest.TestCase):
    def test_each_kind_of_wrong(self):
        for valve in [SLIDE] + some_valves(20, 91):
            self.assertEqual(wrong_valve(valve, ("right",)), valve)
            self.assertEqual(wrong_valve(valve=valve, wrong=("opposite",)), opposite(valve))
            for ratio in RATIOS:
                self.assertEqual(wrong_valve(valve, ("moved", ratio)), moved(valve, ratio))
            for ratio in ((1, 1), (2, 1), (1, GREAT), (5, 3)):
                self.assertEqual(wrong_valve(valve, ("thrown", ratio)), thrown(valve, ratio))
            for turn in TURNS:
                told = wrong_valve(valve, ("slipped", turn))
                self.assertEqual(told, turned_valve(valve, turn))
                self.assertTrue(is_valve(told))

    def test_seen(self):
        due = [["closed", "steam", "exhaust"], ["steam", "steam", "exhaust"], ["closed", "closed", "exhaust"], ["exhaust", "exhaust", "closed"]]
        self.assertEqual([[seen(wrong_valve(SLIDE, wrong), look) for look in LOOKS] for wrong in WRONGS[:4]], due)
        chance = Random(92)
        for valve in some_valves(20, 92):
            for look in all_kinds_of_looks([valve]) + [(angle, "head") for angle in chance.sample(angles_up_to(valve[0], 2), 8)]:
                self.assertEqual(seen(valve=valve, look=look), oracle.state(valve, look[1], oracle.arrow(look[0])))

    def test_parting(self):
        other = moved(SLIDE, (1, 1))
        self.assertEqual([is_parting(SLIDE, other, look) for look in LOOKS], [True, False, False])
        self.assertIs(is_parting(valve=SLIDE, other=SLIDE, look=LOOKS[0]), False)
        # Unlike at the place of the touch alone: everywhere but there the valve takes steam.
        first, second = (1, (3, 4), (-5, 9, 9, 9), 1), (1, (3, 4), (-6, 9, 9, 9), 1)
        touch = way_angle(1, (-3, -4))
        self.assertIs(is_parting(first, second, (touch, "head")), True)
        for angle in (FRONT, TOP, BACK, way_angle(1, (1 - 3 * GREAT, -4 * GREAT)), way_angle(1, (-1 - 3 * GREAT, -4 * GREAT))):
            self.assertIs(is_parting(first, second, (angle, "head")), False)
        self.assertIs(is_parting(first, second, (touch, "crank")), False)

    def test_looks_of_another_form(self):
        two, angle = (2, (3, 4), (3, 0, 3, 0), 2), (2, 0, 1, 0)
        for call in (lambda look: seen(SLIDE, look), lambda look: is_parting(SLIDE, SLIDE, look), lambda look: is_parting(SLIDE, two, look)):
            with self.assertRaises(InvalidLook) as told:
                call((angle, "head"))
            self.assertEqual(told.exception.given, (angle, "head"))
        for call, error in (
            (lambda: left_by(SLIDE, WRONGS, (((FRONT, "head"), "steam"), ((angle, "head"), "steam"))), InvalidFindings),
            (lambda: fewest_looks(SLIDE, WRONGS, (LOOKS[0], (angle, "crank"))), InvalidLooks),
        ):
            with self.assertRaises(error) as told:
                call()
            self.assertEqual(told.exception.index, 1)
        self.assertEqual(fewest_looks(two, WRONGS[:1], ((angle, "head"),)), ())


class Left(unittest.TestCase):
    def test_told(self):
        found = (((FRONT, "head"), "closed"),)
        self.assertEqual(left_by(SLIDE, WRONGS, found), (("right",), ("moved", (-1, 1)), ("thrown", (1, 1))))
        self.assertEqual(left_by(SLIDE, WRONGS, ()), WRONGS)
        self.assertEqual(left_by(valve=SLIDE, wrongs=WRONGS, findings=found + (((TOP, "head"), "steam"),)), (("right",), ("thrown", (1, 1))))
        self.assertEqual(left_by(SLIDE, WRONGS, (((FRONT, "head"), "both"),)), ())
        # One look with two findings leaves nothing; told twice, a wrong is left twice.
        self.assertEqual(left_by(SLIDE, WRONGS, (((FRONT, "head"), "closed"), ((FRONT, "head"), "steam"))), ())
        self.assertEqual(left_by(SLIDE, (("right",), ("opposite",), ("right",)), found), (("right",), ("right",)))

    def test_against_states(self):
        chance = Random(93)
        sizes = set()
        for valve, wrongs in cases(40, 93):
            valves = [wrong_valve(valve, wrong) for wrong in wrongs]
            looks = chance.choices(all_kinds_of_looks(valves), k=3)
            findings = tuple((look, seen(chance.choice(valves), look)) for look in looks[:chance.randint(0, 3)])
            due = tuple(
                wrong for wrong, other in zip(wrongs, valves) if all(seen(other, look) == state for look, state in findings)
            )
            self.assertEqual(left_by(valve, wrongs, findings), due)
            sizes.add((len(due) == len(wrongs), due == ()))
        self.assertEqual(sizes, {(True, False), (False, True), (False, False)})


class Blind(unittest.TestCase):
    def test_told(self):
        self.assertEqual(blind_pairs(SLIDE, WRONGS), ((0, 4),))
        self.assertEqual(blind_pairs(SLIDE, WRONGS[:4]), ())
        self.assertEqual(blind_pairs(valve=SLIDE, wrongs=(("right",),) * 4), ((0, 1), (0, 2), (0, 3), (1, 2), (1, 3), (2, 3)))
        self.assertEqual(blind_pairs(SLIDE, (("opposite",), ("moved", (0, 1)), ("slipped", (0, 1)), ("right",))), ((0, 2), (1, 3)))
        # Without an eccentric neither a turn nor a throw is seen.
        still = (1, (0, 0), (1, -1, 1, 1), 1)
        self.assertEqual(blind_pairs(still, (("slipped", (1, 1)), ("thrown", (7, 1)), ("moved", (3, 1)))), ((0, 1),))

    def test_beside_alike_valves_and_looks_of_all_kinds(self):
        met = set()
        for valve, wrongs in cases(40, 94):
            valves = [wrong_valve(valve, wrong) for wrong in wrongs]
            due = tuple(pair for pair in combinations(range(len(wrongs)), 2) if are_alike(valves[pair[0]], valves[pair[1]]))
            self.assertEqual(blind_pairs(valve, wrongs), due)
            parted = set().union(*[pairs_by(valves, look) for look in all_kinds_of_looks(valves)])
            self.assertEqual(set(combinations(range(len(wrongs)), 2)) - parted, set(due))
            met.add(bool(due))
        self.assertEqual(met, {True, False})

    def test_refused(self):
        for wrongs, index in (((), None), (list(WRONGS), None), (WRONGS + WRONGS, 6), (WRONGS + (("left",),), 5), (WRONGS * 2 + (1,), 6)):
            for call in (lambda told: blind_pairs(SLIDE, told), lambda told: any_fewest_looks(SLIDE, told), lambda told: left_by(SLIDE, told, 1)):
                with self.assertRaises(InvalidWrongs) as told:
                    call(wrongs)
                self.assertEqual(told.exception.index, index)


class Fewest(unittest.TestCase):
    def test_told(self):
        self.assertEqual(fewest_looks(SLIDE, WRONGS, LOOKS), (0, 1))
        self.assertEqual(fewest_looks(SLIDE, WRONGS, ()), ())
        self.assertEqual(fewest_looks(valve=SLIDE, wrongs=WRONGS[:1], looks=LOOKS), ())
        # Looks that part nothing are left out; of those that part the same the first one is told.
        self.assertEqual(fewest_looks(SLIDE, WRONGS[:2], (LOOKS[1], LOOKS[2])), ())
        self.assertEqual(fewest_looks(SLIDE, WRONGS[:2], (LOOKS[1], LOOKS[0], LOOKS[0])), (1,))
        self.assertEqual(fewest_looks(SLIDE, WRONGS, LOOKS[::-1]), (1, 2))
        self.assertEqual(fewest_looks(SLIDE, WRONGS, (LOOKS[2], LOOKS[2]) + LOOKS), (2, 3))

    def test_the_least_of_the_shortest(self):
        chance = Random(95)
        sizes = set()
        for valve, wrongs in cases(30, 95) + cases(40, 97, 6):
            valves = [wrong_valve(valve, wrong) for wrong in wrongs]
            kinds = all_kinds_of_looks(valves)
            looks = tuple(chance.choice(kinds) for _ in range(chance.randint(0, 8)))
            due = least_cover([pairs_by(valves, look) for look in looks])
            self.assertEqual(fewest_looks(valve, wrongs, looks), due)
            sizes.add(len(due))
        self.assertTrue({0, 1, 2, 3} <= sizes, sizes)

    def test_of_all_looks(self):
        self.assertEqual(len(any_fewest_looks(SLIDE, WRONGS)), 2)
        self.assertEqual(any_fewest_looks(valve=SLIDE, wrongs=WRONGS[:1]), ())
        self.assertEqual(any_fewest_looks(SLIDE, (("right",), ("thrown", (1, 1)))), ())
        # One place alone parts these two.
        (look,) = any_fewest_looks((1, (3, 4), (-5, 9, 9, 9), 1), (("right",), ("thrown", (1, 2))))
        self.assertEqual(look[1], "head")

    def test_as_few_as_possible(self):
        sizes = set()
        for valve, wrongs in cases(40, 96) + cases(30, 98, 6):
            valves = [wrong_valve(valve, wrong) for wrong in wrongs]
            told = any_fewest_looks(valve, wrongs)
            kinds = [pairs_by(valves, look) for look in all_kinds_of_looks(valves)]
            every = set().union(*kinds)
            self.assertEqual(set().union(*[pairs_by(valves, look) for look in told]), every, (valve, wrongs))
            self.assertTrue(len(told) < len(wrongs))
            if len(told) > 0:
                # No fewer looks of any kind do.
                distinct = [set(kind) for kind in {frozenset(kind) for kind in kinds}]
                wide = [kind for kind in distinct if not any(kind < other for other in distinct)]
                for chosen in combinations(wide, len(told) - 1):
                    self.assertNotEqual(set().union(*chosen), every, (valve, wrongs))
            sizes.add(len(told))
        self.assertTrue({0, 1, 2, 3} <= sizes, sizes)

    def test_one_look_for_each_wrong_but_one(self):
        # Steam is taken behind the level alone, and each shift has its own: each look parts those below it from those above.
        valve = (1, (9, 0), (0, 99, 99, 99), 1)
        wrongs = tuple(("moved", (n, 1)) for n in range(6))
        told = any_fewest_looks(valve, wrongs)
        self.assertEqual(len(told), 5)
        self.assertEqual(len({end for _, end in told}), 1)
        looks = told + told[:3]
        self.assertEqual(fewest_looks(valve, wrongs, looks), (0, 1, 2, 3, 4))


if __name__ == "__main__":
    unittest.main()
