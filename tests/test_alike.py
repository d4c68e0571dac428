import unittest
from math import gcd
from random import Random

from steamlinks.alike import alike_notches, are_alike, are_alike_at, are_alike_turned, are_always_alike, parting_notch, unlike_angle
from steamlinks.errors import InvalidNotch, Unlike
from steamlinks.knots import is_knot, is_point
from steamlinks.links import is_link, valve_at
from steamlinks.notches import are_same_lots, is_lot, lot_holds, lot_rest
from steamlinks.regions import is_same_region
from steamlinks.valves import state_at, state_region, turned_valve, valve_of
from tests import oracle
from tests.samples import GREAT, NOTCHES, TURNS, some_links, some_valves
from tests.test_notches import ALL, HIGH, LEAST, LOW, MOST, all_but, only, points_around

ENDS = ("head", "crank")
STATES = ("steam", "exhaust", "both", "closed")
VALVE = (1, (3, 4), (3, 0, 3, 0), 2)


def do_the_same(valve, other):
    """By the regions of all states, straight from point 24."""
    return all([
        is_same_region(state_region(valve, end, state), state_region(other, end, state)) for end in ENDS for state in STATES
    ])


def span(form, vector, level):
    """The kind of a region, and the cosine that settles how far an arc goes."""
    size = oracle.norm(form, vector)
    far = oracle.sign(size - level * level)
    if far <= 0 and level >= 0:
        return ("none",)
    if far < 0:
        return ("all",)
    return ("all but one" if far == 0 else "arc", level / oracle.Decimal(size).sqrt())


def same_span(first, second):
    return first[0] == second[0] and (len(first) == 1 or oracle.sign(first[1] - second[1]) == 0)


def alike_by_decimals(form, vector, laps, other, far_laps):
    """Whether valves with these eccentrics, perhaps of Decimals, do the same."""
    across = vector[0] * other[1] - vector[1] * other[0]
    along = vector[0] * other[0] + form * vector[1] * other[1]
    ahead = oracle.sign(across) == 0 and oracle.sign(along) > 0
    for lap, far_lap in zip(laps, far_laps):
        first, second = span(form, vector, lap), span(form, other, far_lap)
        if not same_span(first, second) or (len(first) == 2 and not ahead):
            return False
    return True


def akin(chance, valve):
    """A valve that has something in common with another one."""
    form, vector, laps, port = valve
    laps, factor = list(laps), chance.randint(1, 3)
    for index in range(4):
        if chance.random() < 0.3:
            laps[index] += chance.choice((-1, 1, 2, 9, -9))
    if chance.random() < 0.2:
        vector = (vector[0], -vector[1])
    if chance.random() < 0.1:
        vector = (-vector[0], -vector[1])
    return valve_of(form, (vector[0] * factor, vector[1] * factor), tuple(lap * factor for lap in laps), chance.randint(1, 5))


class Valves(unittest.TestCase):
    def check_pair(self, valve, other, due):
        self.assertIs(are_alike(valve, other), due, (valve, other))
        self.assertIs(are_alike(valve=other, other=valve), due)
        for first, second in ((valve, other), (other, valve)):
            angle = unlike_angle(valve=first, other=second)
            if due:
                self.assertIsNone(angle)
            else:
                self.assertTrue(any([state_at(first, end, angle) != state_at(second, end, angle) for end in ENDS]), (first, second, angle))

    def test_told(self):
        for valve, other, due in (
            (VALVE, VALVE, True), (VALVE, (1, (3, 4), (3, 0, 3, 0), 7), True), (VALVE, (1, (6, 8), (6, 0, 6, 0), 1), True),
            (VALVE, (1, (5, 0), (3, 0, 3, 0), 1), False), (VALVE, (1, (-3, -4), (3, 0, 3, 0), 1), False), (VALVE, (1, (3, 4), (-3, 0, 3, 0), 1), False),
            (VALVE, (1, (3, 4), (3, 0, 3, 1), 1), False), (VALVE, (1, (3, 4), (3, 1, 3, 0), 1), False), (VALVE, (1, (3, 4), (3, 0, 2, 0), 1), False),
            (VALVE, (1, (6, 8), (7, 0, 6, 0), 1), False), (VALVE, (1, (-6, -8), (-6, 0, -6, 0), 1), False),
            # Out of reach, just touched.
            ((1, (3, 4), (5, 5, 5, 5), 1), (1, (0, 2), (2, 2, 7, 2), 1), True), ((1, (3, 4), (5, 5, 5, 5), 1), (1, (0, 0), (0, 0, 0, 0), 1), True),
            ((1, (3, 4), (-6, 5, 5, 5), 1), (1, (0, 0), (-1, 0, 0, 0), 1), True), ((1, (3, 4), (-5, 5, 5, 5), 1), (1, (3, 4), (-6, 5, 5, 5), 1), False),
            ((1, (3, 4), (-5, 5, 5, 5), 1), (1, (6, 8), (-10, 11, 12, 13), 1), True), ((1, (3, 4), (-5, 5, 5, 5), 1), (1, (4, 3), (-5, 5, 5, 5), 1), False),
            ((1, (3, 4), (5, 5, 5, -5), 1), (1, (-3, -4), (5, 5, 5, -5), 1), False), ((1, (3, 4), (5, 5, 5, -6), 1), (1, (-3, -4), (5, 5, 5, -6), 1), True),
            # Levels that are 0, the eccentrics in one line ahead or not.
            ((1, (3, 4), (0, 0, 0, 0), 1), (1, (6, 8), (0, 0, 0, 0), 1), True), ((1, (1, 0), (0, 0, 0, 0), 1), (1, (-1, 0), (0, 0, 0, 0), 1), False),
            ((2, (1, 1), (1, 0, 1, 0), 1), (2, (GREAT, GREAT), (GREAT, 0, GREAT, 0), GREAT - 1), True),
            ((2, (1, 1), (1, 0, 1, 0), 1), (2, (GREAT, GREAT), (GREAT + 1, 0, GREAT, 0), GREAT - 1), False),
            ((1, (0, 0), (-1, 0, 0, -3), 1), (1, (0, 0), (-4, 7, 9, -1), 1), True), ((1, (0, 0), (-1, 0, 0, -3), 1), (1, (0, 0), (-4, 7, 9, 1), 1), False),
        ):
            self.check_pair(valve, other, due)

    def test_by_regions(self):
        chance = Random(51)
        truths = []
        valves = some_valves(120, 51, most=3)
        for valve in valves:
            for other in [akin(chance, valve), akin(chance, valve), chance.choice([v for v in valves if v[0] == valve[0]])]:
                due = do_the_same(valve, other)
                self.check_pair(valve, other, due)
                truths.append(due)
        self.assertTrue(20 < sum(truths) < len(truths) - 20)

    def test_turned(self):
        for valve, other, due in (
            (VALVE, (1, (5, 0), (3, 0, 3, 0), 1), True), (VALVE, (1, (5, 0), (3, 0, 3, 1), 1), False), (VALVE, (1, (10, 0), (3, 0, 3, 0), 1), False),
            # By an eighth of a turn, which is no TURN of the form 1.
            ((1, (1, 1), (0, 0, 0, 0), 1), (1, (7, 0), (0, 0, 0, 0), 3), True), ((1, (1, 1), (1, 0, 0, 0), 1), (1, (7, 0), (5, 0, 0, 0), 3), False),
            ((2, (0, 1), (1, 0, 1, 0), 1), (2, (2, 0), (1, 0, 1, 0), 1), False), ((2, (0, 2), (2, 1, 0, -1), 1), (2, (2, -1), (2, 1, 0, -1), 1), False),
            ((2, (4, 1), (3, -1, 0, -3), 1), (2, (0, 3), (3, -1, 0, -3), 1), True), ((2, (4, 1), (3, -1, 0, -3), 1), (2, (0, 3), (3, 1, 0, -3), 1), False),
            # Regions that are nothing, all, all but one place.
            ((1, (3, 4), (5, 9, 5, -9), 1), (1, (1, 0), (1, 1, 8, -2), 1), True), ((1, (3, 4), (5, 9, 5, -9), 1), (1, (1, 0), (1, 1, 8, -1), 1), False),
            ((1, (3, 4), (-5, 5, 5, 5), 1), (1, (0, 1), (-1, 1, 1, 1), 1), True), ((1, (3, 4), (-5, 5, 5, 5), 1), (1, (0, 1), (-2, 1, 1, 1), 1), False),
            ((1, (0, 0), (0, 0, 0, 0), 1), (1, (3, 4), (5, 5, 5, 5), 1), True), ((1, (0, 0), (0, 0, 0, 0), 1), (1, (3, 4), (4, 5, 5, 5), 1), False),
        ):
            self.assertIs(are_alike_turned(valve, other), due, (valve, other))
            self.assertIs(are_alike_turned(valve=other, other=valve), due)

    def test_turned_by_turns(self):
        chance = Random(52)
        for valve in some_valves(100, 52, most=3):
            for turn in TURNS:
                self.assertIs(are_alike_turned(valve, turned_valve(valve, turn)), True)
            other = akin(chance, valve)
            pairs = zip(valve[2], other[2])
            due = all([same_span(span(valve[0], valve[1], lap), span(valve[0], other[1], far)) for lap, far in pairs])
            self.assertIs(are_alike_turned(valve, turned_valve(other, chance.choice(TURNS))), due)
            if do_the_same(valve, other):
                self.assertIs(due, True)

    def test_unlike_forms(self):
        other = (2,) + VALVE[1:]
        for call in (are_alike, unlike_angle, are_alike_turned):
            with self.assertRaises(Unlike) as told:
                call(VALVE, other)
            self.assertIs(told.exception.given, other)


LINK = (1, (0, 4), (3, 0), (0, 0), (1, 0, 1, 0), 1)
# Pairs of links and the lots of notches at which they are alike.
PAIRS = (
    (LINK, LINK, ALL), (LINK, (1, (0, 8), (6, 0), (0, 0), (2, 0, 2, 0), 5), ALL), (LINK, (1, (0, 4), (-3, 0), (0, 0), (1, 0, 1, 0), 1), only((0, 1))),
    (LINK, (1, (0, 4), (3, 0), (1, 0), (1, 0, 1, 0), 1), only((0, 1))), (LINK, (1, (0, 4), (3, 0), (0, 0), (1, 0, 2, 0), 1), ()),
    (LINK, (1, (1, 4), (3, 0), (-4, 0), (1, 0, 1, 0), 1), only((-1, 2), (1, 2))), (LINK, (1, (-1, 4), (3, 0), (2, 0), (1, 0, 1, 0), 1), only(LOW, HIGH)),
    # One eccentric is the other one times t, or times t * t: ahead above 0, all levels being 0.
    ((1, (1, 2), (0, 0), (0, 0), (0, 0, 0, 0), 1), (1, (0, 0), (1, 2), (0, 0), (0, 0, 0, 0), 1), (((0, 1), False, MOST, True),)),
    ((1, (1, 2), (0, 0), (0, 0), (0, 0, 0, 0), 1), (1, (0, 0), (0, 0), (1, 2), (0, 0, 0, 0), 1), all_but((0, 1))),
    ((1, (1, 2), (0, 0), (0, 0), (0, 0, 0, 0), 1), (1, (-1, -2), (0, 0), (2, 4), (0, 0, 0, 0), 1), ((LEAST, True, LOW, False), (HIGH, False, MOST, True))),
    # Nothing at all as long as the level is out of reach.
    ((1, (0, 0), (1, 1), (0, 0), (1, 2, 2, 2), 1), (1, (0, 0), (0, 0), (0, 0), (0, 0, 0, 0), 1), ((LOW, True, HIGH, True),)),
    ((1, (0, 0), (1, 1), (0, 0), (-1, 2, 2, 2), 1), (1, (0, 0), (0, 0), (0, 0), (-1, 0, 0, 0), 1), ((LOW, False, HIGH, False),)),
    ((1, (0, 0), (1, 0), (0, 0), (1, 2, 2, 2), 1), (1, (0, 0), (0, 0), (1, 0), (3, 3, 3, 3), 1), ALL),
    ((1, (0, 0), (3, 0), (0, 0), (1, 4, 4, 4), 1), (1, (0, 0), (0, 0), (1, 0), (1, 2, 2, 2), 1), (((-1, 3), True, (1, 3), True),)),
    # The same cosine at a root alone, a cosine of another sign at the opposite one.
    ((1, (1, 0), (0, 0), (0, 0), (0, 0, 0, 0), 1), (1, (1, 0), (0, 0), (0, 0), (0, 0, 0, 1), 1), ()),
    ((1, (2, 0), (0, 0), (0, 0), (1, 0, 0, 0), 1), (1, (0, 0), (0, 0), (4, 0), (1, 0, 0, 0), 1), only(LOW, HIGH)),
    ((1, (4, 0), (0, 0), (0, 0), (1, 0, 0, 0), 1), (1, (3, 0), (1, 0), (0, 0), (1, 0, 0, 0), 1), only((1, 1))),
    ((1, (4, 0), (0, 0), (0, 0), (1, 0, 0, 0), 1), (1, (4, 0), (1, 0), (0, 0), (-1, 0, 0, 0), 1), ()),
    ((3, (4, 0), (0, 0), (0, 0), (1, 0, 0, 0), 1), (3, (2, 0), (1, 0), (0, 0), (1, 0, 0, 0), 1), ()),
)


class Links(unittest.TestCase):
    def check_pair(self, link, other):
        form = link[0]
        lot = alike_notches(link, other)
        self.assertIs(is_lot(lot), True)
        self.assertIs(are_same_lots(alike_notches(link=other, other=link), lot), True)
        for point in points_around(lot) + list(NOTCHES):
            if is_knot(point):
                t = oracle.number(point)
                vectors = [[told[1][i] + t * told[2][i] + t * t * told[3][i] for i in (0, 1)] for told in (link, other)]
                due = alike_by_decimals(form, vectors[0], link[4], vectors[1], other[4])
            else:
                due = are_alike(valve_at(link, point), valve_at(other, point))
                self.assertIs(are_alike_at(link, other, point), due)
            self.assertIs(lot_holds(lot, point), due, (link, other, point))
        always = are_same_lots(lot, ALL)
        self.assertIs(are_always_alike(link, other), always)
        told = parting_notch(link, other)
        if always:
            self.assertIsNone(told)
            return lot
        notch, angle = told
        self.assertTrue(is_point(notch) and not is_knot(notch) and lot_holds(lot_rest(lot), notch))
        valves = valve_at(link, notch), valve_at(other, notch)
        self.assertTrue(any([state_at(valves[0], end, angle) != state_at(valves[1], end, angle) for end in ENDS]))
        return lot

    def test_told(self):
        for link, other, due in PAIRS:
            self.assertTrue(is_link(link) and is_link(other), (link, other))
            lot = self.check_pair(link, other)
            self.assertIs(are_same_lots(lot, due), True, (link, other, lot))

    def test_by_valves(self):
        chance = Random(53)
        kinds = set()
        for link in some_links(60, 53, most=1) + some_links(60, 54, most=2):
            laps = tuple(chance.choice((lap, lap, lap + 1, 9)) for lap in link[4])
            factor = chance.choice((1, 2))
            vectors = [tuple(number * factor for number in vector) for vector in link[1:4]]
            change = chance.randint(1, 3)
            if change < 3:
                vectors[change] = tuple(number + chance.choice((0, 0, 1, -1)) for number in vectors[change])
            if chance.random() < 0.3:
                vectors[0], vectors[2] = vectors[2], vectors[0]
            numbers = [number for vector in vectors for number in vector] + [lap * factor for lap in laps]
            if gcd(*numbers, 1) == 1:
                lot = self.check_pair(link, (link[0], *vectors, tuple(lap * factor for lap in laps), 1))
                kinds.add("all" if are_same_lots(lot, ALL) else len(lot))
        self.assertTrue(kinds >= {"all", 0, 1, 2})

    def test_great_numbers(self):
        link = (1, (GREAT, 1), (1, 0), (0, 0), (1, 0, 1, 0), 1)
        other = (1, (GREAT, 1), (1, 0), (1, 0), (1, 0, 1, 0), 1)
        self.assertIs(are_same_lots(alike_notches(link, other), only((0, 1))), True)
        self.assertIs(are_alike_at(link=link, other=other, notch=(1, GREAT)), False)
        self.assertIs(are_alike_at(link, other, (0, 1)), True)
        self.check_pair(link, other)

    def test_refused(self):
        other = (2,) + LINK[1:]
        for call in (are_always_alike, alike_notches, parting_notch, lambda link, other: are_alike_at(link, other, (0, 1))):
            with self.assertRaises(Unlike) as told:
                call(LINK, other)
            self.assertIs(told.exception.given, other)
        with self.assertRaises(InvalidNotch):
            are_alike_at(LINK, other, (2, 1))


if __name__ == "__main__":
    unittest.main()
