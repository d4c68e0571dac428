"""Links read back from sightings: rows, links that fit, bars, the freedom, what follows."""

import unittest
from fractions import Fraction
from math import gcd
from random import Random

from steamlinks.angles import way_angle
from steamlinks.errors import InvalidForm, InvalidSightings, NoFit
from steamlinks.fits import bar, fits, fitting_link, follows, freedom, parting_link, sighting_rows
from steamlinks.links import is_link, valve_at
from steamlinks.places import as_way, is_same_place, side_at, turned
from steamlinks.valves import ENDS, EVENTS, event_angle
from tests.samples import GREAT, NOTCHES, TURNS, some_links

ADMISSION, CUTOFF = ((0, 1), "head", "admission", (1, 0)), ((0, 1), "head", "cutoff", (3, 4))
TOLD = (ADMISSION, CUTOFF)
LINK = (1, (3, 4), (1, 0), (0, 2), (3, 0, 3, 0), 2)


def way_of(form, turn):
    first, second = turned(form, (1, 0), turn)
    return (first // gcd(first, second), second // gcd(first, second))


def does_fit(link, sighting):
    """Whether the link's valve at the notch has the event at the place of the turn's way, by its angle."""
    notch, end, event, turn = sighting
    angle = event_angle(valve_at(link, notch), end, event)
    return angle is not None and is_same_place(angle, way_angle(link[0], way_of(link[0], turn)))


def numbers_of(link):
    return link[1] + link[2] + link[3] + link[4]


def product(row, other):
    return sum(first * second for first, second in zip(row, other))


def some_sighting(chance, notches=NOTCHES):
    return (chance.choice(notches), chance.choice(ENDS), chance.choice(EVENTS), chance.choice(TURNS))


def some_sightings(many, seed):
    chance = Random(seed)
    found = []
    for _ in range(many):
        notches = chance.sample(NOTCHES, chance.choice((1, 2, 3, 5)))
        found.append((chance.choice((1, 2, 3)), tuple(some_sighting(chance, notches) for _ in range(chance.randint(1, 8)))))
    return found


def sightings_of(link, many, chance):
    """Sightings of one link: those of its events that are at places of turns."""
    found = []
    for notch in chance.sample(NOTCHES, len(NOTCHES)):
        for end in ENDS:
            for event in EVENTS:
                angle = event_angle(valve_at(link, notch), end, event)
                way = None if angle is None else as_way(angle)
                for turn in TURNS:
                    if way == way_of(link[0], turn):
                        found.append((notch, end, event, turn))
    return tuple(found[:many])


def rank(rows):
    rows = [[Fraction(number) for number in row] for row in rows]
    found = 0
    for at in range(10):
        pivots = [row for row in rows if row[at] != 0]
        if pivots:
            found += 1
            first = pivots[0]
            rows = [[a - b * row[at] / first[at] for a, b in zip(row, first)] for row in rows if row is not first]
    return found


class Rows(unittest.TestCase):
    def test_told(self):
        self.assertEqual(sighting_rows(1, ADMISSION), ((1, 0, 0, 0, 0, 0, -1, 0, 0, 0), (0, 1, 0, 0, 0, 0, 0, 0, 0, 0)))
        self.assertEqual(sighting_rows(form=1, sighting=CUTOFF), ((-7, 24, 0, 0, 0, 0, -25, 0, 0, 0), (24, 7, 0, 0, 0, 0, 0, 0, 0, 0)))
        # w = (-2, 2), W = 4, V = 4 P - 2 Q + S, all halved.
        self.assertEqual(
            sighting_rows(3, ((-1, 2), "crank", "release", (1, 1))),
            ((-4, 12, 2, -6, -1, 3, 0, 0, 0, -8), (-4, -4, 2, 2, -1, -1, 0, 0, 0, 0)),
        )
        # At the place of (-1, 0), with each level: w = (-2, 0), W = 2.
        for event, end, even in (
            ("admission", "head", (0, 0, -1, 0, 0, 0)), ("release", "head", (0, 0, 0, 1, 0, 0)), ("cutoff", "crank", (0, 0, 0, 0, 1, 0)),
            ("compression", "crank", (0, 0, 0, 0, 0, -1)),
        ):
            sign = 1 if (end, event) in (("head", "admission"), ("crank", "cutoff")) else -1
            told = sighting_rows(2, ((0, 1), end, event, (0, 1)))
            self.assertEqual(told, ((-1,) + (0,) * 5 + even[2:], (0, -sign) + (0,) * 8))
        # The end of the link: V = P + Q + S, and P - Q + S.
        self.assertEqual(sighting_rows(1, ((1, 1), "head", "compression", (1, 1))), ((0, 1) * 3 + (0, 1, 0, 0), (-1, 0) * 3 + (0,) * 4))
        self.assertEqual(sighting_rows(1, ((-1, 1), "head", "release", (1, -1))), ((0, -1, 0, 1, 0, -1, 0, 1, 0, 0), (-1, 0, 1, 0, -1, 0) + (0,) * 4))

    def test_reduced(self):
        chance = Random(101)
        for _ in range(60):
            form, sighting = chance.choice((1, 2, 3)), some_sighting(chance)
            (n, m), end, event, (p, q) = sighting
            w, weight = turned(form, (1, 0), (p, q)), p * p + form * q * q
            even, strict = sighting_rows(form, sighting)
            self.assertTrue(gcd(*even) == gcd(*strict) == 1)
            index, sign = {"head": {"admission": (6, 1), "cutoff": (6, 1), "release": (7, -1), "compression": (7, -1)},
                           "crank": {"admission": (8, -1), "cutoff": (8, -1), "release": (9, 1), "compression": (9, 1)}}[end][event]
            due = [f * c for f in (m * m, n * m, n * n) for c in (w[0], form * w[1])] + [0] * 4
            due[index] = -sign * m * m * weight
            self.assertEqual([number * gcd(*due) for number in even], due)
            rises = (end, event) in (("head", "admission"), ("head", "compression"), ("crank", "cutoff"), ("crank", "release"))
            due = [f * c * (1 if rises else -1) for f in (m * m, n * m, n * n) for c in (-w[1], w[0])] + [0] * 4
            self.assertEqual([number * gcd(*due) for number in strict], due)


class Fits(unittest.TestCase):
    def test_told(self):
        self.assertIs(fits(LINK, TOLD), True)
        self.assertIs(fits(link=LINK, sightings=TOLD[::-1] + TOLD), True)
        # Another lap: the even row alone fails. The arrow to the other side: the strict row alone.
        self.assertIs(fits((1, (3, 4), (1, 0), (0, 2), (2, 0, 3, 0), 2), TOLD[:1]), False)
        self.assertIs(fits((1, (3, -4), (1, 0), (0, 2), (3, 0, 3, 0), 2), TOLD[:1]), False)
        self.assertIs(fits((1, (3, -4), (1, 0), (0, 2), (3, 0, 3, 0), 2), (((0, 1), "head", "cutoff", (1, 0)),)), True)
        # A touch is no event.
        self.assertIs(fits((1, (3, 0), (1, 0), (0, 2), (3, 0, 3, 0), 2), TOLD[:1]), False)
        # PORT does not count, and all sightings do.
        self.assertIs(fits(LINK[:5] + (GREAT + 1,), TOLD), True)
        self.assertIs(fits(LINK, TOLD + (((0, 1), "head", "cutoff", (1, 1)),)), False)

    def test_beside_the_events(self):
        chance = Random(102)
        met = set()
        for link in some_links(150, 102):
            for sighting in sightings_of(link, 6, chance) + tuple(some_sighting(chance) for _ in range(4)):
                due = does_fit(link, sighting)
                self.assertIs(fits(link, (sighting,)), due, (link, sighting))
                met.add((due, sighting[1], sighting[2]))
                even, strict = sighting_rows(link[0], sighting)
                self.assertIs(product(even, numbers_of(link)) == 0 and product(strict, numbers_of(link)) > 0, due)
        self.assertEqual(len(met), 16)

    def test_refused(self):
        for sightings, index in (((), 0), (list(TOLD), None), (TOLD * 4 + (ADMISSION,), 8), (TOLD + (1,), 2), (TOLD * 5 + (1,), 8)):
            for call in (lambda told: fits(LINK, told), lambda told: fitting_link(1, told), lambda told: follows(1, told, 1)):
                with self.assertRaises(InvalidSightings) as told:
                    call(sightings)
                self.assertEqual(told.exception.index, index)
        for call in (lambda: sighting_rows(1, 1), lambda: follows(1, TOLD, TOLD), lambda: parting_link(1, TOLD, None)):
            with self.assertRaises(InvalidSightings) as told:
                call()
            self.assertIsNone(told.exception.index)


class Fitting(unittest.TestCase):
    def check(self, form, sightings):
        """A link that fits, or a bar: never both, never none."""
        link, told = fitting_link(form, sightings), bar(form, sightings)
        self.assertIs(link is None, told is not None, (form, sightings))
        if link is not None:
            self.assertTrue(is_link(link) and link[0] == form)
            self.assertTrue(fits(link, sightings) and all(does_fit(link, sighting) for sighting in sightings), (link, sightings))
        else:
            ahead, along = told
            rows = [sighting_rows(form, sighting) for sighting in sightings]
            self.assertTrue(isinstance(ahead, tuple) and isinstance(along, tuple) and len(ahead) == len(along) == len(rows))
            self.assertTrue(all(isinstance(number, int) for number in ahead + along))
            self.assertTrue(min(along) >= 0 and max(along) > 0)
            for at in range(10):
                self.assertEqual(sum(a * row[0][at] + b * row[1][at] for a, b, row in zip(ahead, along, rows)), 0)
        return link

    def test_told(self):
        self.assertIsNone(bar(1, TOLD))
        third = ((0, 1), "head", "cutoff", (1, 1))
        self.assertIsNone(fitting_link(1, TOLD + (third,)))
        self.check(1, TOLD + (third,))
        self.assertIsNotNone(self.check(1, TOLD))
        self.assertIsNotNone(fitting_link(form=3, sightings=TOLD))
        self.assertIsNone(bar(form=3, sightings=TOLD))

    def test_both_ways_round(self):
        # One event at one place in both senses: x rises and falls through one level there.
        for end, first, second in (("head", "admission", "cutoff"), ("head", "release", "compression"), ("crank", "admission", "cutoff")):
            pair = (((1, 3), end, first, (2, 1)), ((1, 3), end, second, (2, 1)))
            self.assertIsNone(self.check(2, pair))
            self.assertEqual(bar(2, pair)[1], (1, 1))
        for turn in TURNS:
            for notch in ((0, 1), (1, 1), (-1, 1), (2, 3)):
                for end in ENDS:
                    self.assertIsNone(self.check(1, ((notch, end, "admission", turn), (notch, end, "cutoff", turn))))
        # The two levels may be one: release and cutoff of the head end fall through it.
        self.assertIsNotNone(self.check(2, (((1, 3), "head", "cutoff", (2, 1)), ((1, 3), "head", "release", (2, 1)))))
        # One event at one notch at two turns.
        for event in EVENTS:
            self.assertIsNone(self.check(1, (((1, 3), "crank", event, (2, 1)), ((1, 3), "crank", event, (2, -1)))))
        self.assertIsNotNone(self.check(1, (((1, 3), "crank", "cutoff", (2, 1)), ((-1, 3), "crank", "cutoff", (2, -1)))))

    def test_one_sighting_twice_and_eight_times(self):
        for form in (1, 2, 3):
            for many in (1, 2, 8):
                self.assertIsNotNone(self.check(form, (CUTOFF,) * many))
                self.assertEqual(freedom(form, (CUTOFF,) * many), 9)

    def test_any(self):
        found = set()
        for form, sightings in some_sightings(250, 103):
            found.add((self.check(form, sightings) is None, len(sightings)))
        self.assertTrue({(True, 8), (True, 2), (False, 1), (False, 4)} <= found)

    def test_sightings_of_one_link(self):
        chance = Random(104)
        most = 0
        for link in some_links(120, 104):
            sightings = sightings_of(link, 8, chance)
            if sightings:
                most = max(most, len(sightings))
                self.assertIs(fits(link, sightings), True)
                self.assertIsNotNone(self.check(link[0], sightings))
        self.assertEqual(most, 8)

    def test_huge_numbers(self):
        sightings = (((1, GREAT), "head", "cutoff", (GREAT, 1)), ((-1, GREAT), "head", "cutoff", (GREAT + 1, 1)), ADMISSION)
        self.assertIsNotNone(self.check(3, sightings))
        self.assertIsNone(self.check(3, sightings + (((1, GREAT), "head", "cutoff", (GREAT, -1)),)))


class Freedom(unittest.TestCase):
    def test_told(self):
        self.assertEqual([freedom(1, TOLD), freedom(form=1, sightings=TOLD[:1]), freedom(1, TOLD + TOLD)], [8, 9, 8])
        # At one notch the places of six turns tell no more than those of three do: two numbers and a level.
        one = tuple(((0, 1), "head", "cutoff", turn) for turn in TURNS[:6])
        self.assertEqual([freedom(1, one[:many]) for many in range(1, 7)], [9, 8, 7, 7, 7, 7])
        # With three turns at each of three notches nothing is left of the vectors and of the level; (1, 0) and (0, 1) lie in one line.
        nine = tuple((notch, "head", "cutoff", turn) for notch in NOTCHES[:3] for turn in TURNS[:3])
        self.assertEqual([freedom(1, nine[:8]), freedom(1, nine[1:])], [4, 3])
        spread = tuple((notch, end, event, turn) for notch, end, event, turn in zip(NOTCHES, ENDS * 4, EVENTS * 2, TURNS))
        self.assertEqual(freedom(2, spread), 2)

    def test_from_ten_down(self):
        found = set()
        for form, sightings in some_sightings(120, 105):
            due = 10 - rank([sighting_rows(form, sighting)[0] for sighting in sightings])
            self.assertEqual(freedom(form, sightings), due)
            found.add(due)
        self.assertEqual(found, {2, 3, 4, 5, 6, 7, 8, 9})


class Following(unittest.TestCase):
    def check(self, form, sightings, sighting):
        link = parting_link(form, sightings, sighting)
        self.assertIs(follows(form, sightings, sighting), link is None, (form, sightings, sighting))
        if link is not None:
            self.assertTrue(is_link(link) and link[0] == form and fits(link, sightings))
            self.assertFalse(fits(link, (sighting,)) or does_fit(link, sighting))
        return link is None

    def test_told(self):
        self.assertEqual([follows(1, TOLD, CUTOFF), follows(1, TOLD, ((0, 1), "head", "release", (1, 2)))], [True, False])
        self.assertIs(follows(form=1, sightings=TOLD, sighting=ADMISSION), True)
        self.assertIsNone(parting_link(form=1, sightings=TOLD, sighting=ADMISSION))
        # The other way round its even row alone follows: no link that fits the one fits the other.
        self.assertIs(self.check(1, TOLD, ((0, 1), "head", "cutoff", (1, 0))), False)

    def test_parted_by_the_even_row_above_or_below_alone(self):
        # E = (0, E1), SH = 0, E1 above 0: x is above the lap wherever the arrow points up, and rises where it points ahead.
        known = (((0, 1), "head", "admission", (1, 0)), ((0, 1), "head", "cutoff", (0, 1)))
        for turn, event in (((3, 1), "admission"), ((3, -1), "admission"), ((1, 3), "cutoff"), ((1, -3), "cutoff"), ((1, 1), "cutoff"), ((1, -1), "cutoff")):
            self.assertIs(self.check(1, known, ((0, 1), "head", event, turn)), False)

    def test_a_strict_row_of_even_ones(self):
        # Steam from the place of (1, 0) to that of (0, 1), and the same lap at both: E = (L, L), L above 0.
        first, second = ((0, 1), "head", "admission", (1, 0)), ((0, 1), "head", "cutoff", (1, 1))
        self.assertIs(self.check(1, (first, second), second), True)
        # Both places tell the eccentric but for its length: so each other event of this lap follows, or cannot be.
        third = ((0, 1), "head", "admission", (0, 1))
        self.assertIs(self.check(1, (first, second), third), False)
        # With a level 0 the opposite place follows from one alone: x rises through 0 there.
        known = (((0, 1), "head", "admission", (1, 0)), ((0, 1), "head", "cutoff", (0, 1)))
        self.assertIs(self.check(1, known, ((0, 1), "head", "cutoff", (0, 1))), True)
        # At three notches x stands at the lap at one place, so it does at all notches. Between them it rises there or not:
        # the strict row is the sum of three multiples, that of the first notch below 0.
        ends = (((-1, 1), "head", "admission", (1, 0)), ((0, 1), "head", "admission", (1, 0)), ((1, 1), "head", "admission", (1, 0)))
        between = ((1, 2), "head", "admission", (1, 0))
        self.assertIs(self.check(1, ends, between), False)
        valve = valve_at(parting_link(1, ends, between), (1, 2))
        self.assertEqual(side_at((1, 0, 1, 0), valve[1], valve[2][0]), 0)
        # If it falls at the first notch, all three are above 0.
        falling = (((-1, 1), "head", "cutoff", (1, 0)),) + ends[1:]
        self.assertIs(self.check(1, falling, between), True)
        self.assertIs(self.check(1, falling, ((1, 2), "head", "cutoff", (1, 0))), False)
        self.assertIs(self.check(1, falling[1:], between), False)

    def test_a_touch_parts(self):
        # Where the even row follows and the strict one does not, the link that parts is at the level there without rising.
        chance = Random(106)
        touches = 0
        for form, sightings in some_sightings(60, 106):
            if fitting_link(form, sightings) is not None:
                for sighting in sightings + tuple(some_sighting(chance, [told[0] for told in sightings]) for _ in range(4)):
                    link = parting_link(form, sightings, sighting)
                    self.check(form, sightings, sighting)
                    if link is not None:
                        even, strict = sighting_rows(form, sighting)
                        touches += product(even, numbers_of(link)) == 0
        self.assertGreater(touches, 0)

    def test_any(self):
        chance = Random(107)
        met = set()
        for link in some_links(120, 107):
            sightings = sightings_of(link, 9, chance)
            for many in (1, 3, 8):
                if len(sightings) > many:
                    for sighting in (sightings[many], sightings[0], some_sighting(chance)):
                        met.add((many, self.check(link[0], sightings[:many], sighting)))
        self.assertEqual(met, {(many, due) for many in (1, 3, 8) for due in (True, False)})

    def test_no_fit_is_told_last(self):
        barred = (CUTOFF, ((0, 1), "head", "admission", (3, 4)))
        self.assertIsNone(fitting_link(1, barred))
        for call in (follows, parting_link):
            with self.assertRaises(NoFit):
                call(1, barred, CUTOFF)
            with self.assertRaises(InvalidSightings) as told:
                call(1, barred, CUTOFF[:3])
            self.assertIsNone(told.exception.index)
            with self.assertRaises(InvalidSightings) as told:
                call(1, barred + (1,), None)
            self.assertEqual(told.exception.index, 2)
            with self.assertRaises(InvalidForm):
                call(4, barred, None)


if __name__ == "__main__":
    unittest.main()
