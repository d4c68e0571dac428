import unittest
from fractions import Fraction
from math import gcd

from steamlinks.angles import is_angle, way_angle
from steamlinks.pistons import compare_cutoffs, compare_event, compare_for_rods, compare_pistons, compare_share
from steamlinks.pistons import share_angle
from steamlinks.places import is_same_place, mirrored_angle, opposite_angle, side_at
from steamlinks.valves import event_angle
from tests import oracle
from tests.samples import FORMS, GREAT, angles_up_to, on_way, some_valves, ways_up_to

ENDS = ("head", "crank")
EVENTS = ("admission", "cutoff", "release", "compression")
RODS = (None, (2, 1), (5, 1), (3, 2), (101, 100), (1000, 1), (GREAT + 1, GREAT), (GREAT, 1))
SHARES = ((1, 2), (1, 4), (3, 4), (1, 3), (16, 25), (1, 100), (99, 100), (1, GREAT))
SLIDE = (1, (3, 4), (3, 0, 3, 0), 2)
FRONT, BACK = way_angle(1, (1, 0)), way_angle(1, (-1, 0))


def due_cosine(rod, share):
    """Straight from point 15."""
    f = Fraction(*share)
    if rod is None:
        return 1 - 2 * f
    n = Fraction(*rod)
    long = n + 1 - 2 * f
    return (long * long - n * n + 1) / (2 * long)


class ShareAngle(unittest.TestCase):
    def test_told_in_numbers(self):
        for form in FORMS:
            self.assertEqual(share_angle(form, None, (1, 4), "out"), (form, -2, 0, -1))
            self.assertEqual(share_angle(form, None, (1, 4), "back"), (form, 2, 0, 1))
            self.assertEqual(share_angle(form, None, (1, 2), "out"), (form, -1, 0, 0))
            self.assertEqual(share_angle(form, None, (3, 4), "back"), (form, 2, 0, -1))
            self.assertEqual(share_angle(form, (2, 1), (1, 2), "back"), (form, 4, 0, 1))
            self.assertEqual(share_angle(form, (2, 1), (1, 2), "out"), (form, -4, 0, -1))

    def test_all_rods_and_shares(self):
        for rod in RODS:
            for share in SHARES:
                cosine = due_cosine(rod, share)
                p, q = cosine.numerator, cosine.denominator
                self.assertEqual(share_angle(2, rod, share, "out"), (2, -q, 0, -p))
                self.assertEqual(share_angle(2, rod, share, "back"), (2, q, 0, p))
                self.assertTrue(is_angle(share_angle(2, rod, share, "out")))

    def test_the_piston_stands_there(self):
        for rod in RODS[:6]:
            for share in SHARES[:7]:
                for form in FORMS:
                    for stroke, height in (("out", 1), ("back", -1)):
                        angle = share_angle(form, rod, share, stroke)
                        place = oracle.arrow(angle)
                        self.assertEqual(oracle.sign(place[1]), height)
                        self.assertEqual(oracle.sign(oracle.stroke_share(rod, place[0]) * share[1] - share[0]), 0)
                        self.assertEqual(compare_share(rod, angle, share), 0)
                        self.assertEqual(side_at(angle, (0, 1), 0), height)


class CompareShare(unittest.TestCase):
    def test_against_the_places(self):
        for form in FORMS:
            for angle in angles_up_to(form, 1) + [on_way(form, way) for way in ways_up_to(2)]:
                place = oracle.arrow(angle)
                for rod in RODS[:6]:
                    for share in SHARES[:7]:
                        due = oracle.sign(oracle.stroke_share(rod, place[0]) * share[1] - share[0])
                        self.assertEqual(compare_share(rod, angle, share), due, (rod, angle, share))

    def test_dead_centres(self):
        for rod in RODS:
            for share in SHARES:
                self.assertEqual(compare_share(rod, FRONT, share), -1)
                self.assertEqual(compare_share(rod, (1, 3, 4, 3), share), -1)
                self.assertEqual(compare_share(rod, BACK, share), 1)

    def test_both_strokes_alike(self):
        for angle in angles_up_to(2, 2):
            for rod in RODS[:3]:
                self.assertEqual(compare_share(rod, angle, (1, 3)), compare_share(rod, mirrored_angle(angle), (1, 3)))

    def test_hardly_beside(self):
        angle = share_angle(1, None, (1, 4), "out")
        self.assertEqual(compare_share(None, angle, (GREAT - 1, 4 * GREAT)), 1)
        self.assertEqual(compare_share(None, angle, (1, 4)), 0)
        self.assertEqual(compare_share(None, angle, (GREAT + 1, 4 * GREAT)), -1)
        self.assertEqual(compare_share((GREAT, 1), angle, (1, 4)), 1)
        angle = share_angle(1, (GREAT + 1, GREAT), (1, 4), "back")
        self.assertEqual(compare_share((GREAT + 1, GREAT), angle, (1, 4)), 0)
        self.assertEqual(compare_share((GREAT + 2, GREAT + 1), angle, (1, 4)), 1)


class CompareForRods(unittest.TestCase):
    def test_told(self):
        up = way_angle(1, (0, 1))
        self.assertEqual(compare_for_rods((2, 1), up, (1, 2)), 1)
        self.assertEqual(compare_for_rods((GREAT + 1, GREAT), up, (1, 2)), 1)
        self.assertIsNone(compare_for_rods((2, 1), share_angle(1, (2, 1), (1, 2), "out"), (1, 2)))
        self.assertIsNone(compare_for_rods((2, 1), share_angle(1, (3, 1), (1, 2), "out"), (1, 2)))
        self.assertIsNone(compare_for_rods((2, 1), share_angle(1, (GREAT, 1), (1, 2), "out"), (1, 2)))
        self.assertEqual(compare_for_rods((2, 1), share_angle(1, (3, 2), (1, 2), "out"), (1, 2)), -1)
        self.assertEqual(compare_for_rods((2 * GREAT, GREAT - 1), share_angle(1, (2, 1), (1, 2), "back"), (1, 2)), -1)
        self.assertIsNone(compare_for_rods((2 * GREAT, GREAT + 1), share_angle(1, (2, 1), (1, 2), "back"), (1, 2)))

    def test_at_the_place_of_the_endless_rod(self):
        for share in SHARES:
            for stroke in ("out", "back"):
                angle = share_angle(1, None, share, stroke)
                for rod in RODS[1:]:
                    self.assertEqual(compare_for_rods(rod, angle, share), 1)

    def test_dead_centres(self):
        for rod in RODS[1:]:
            for share in SHARES:
                self.assertEqual(compare_for_rods(rod, FRONT, share), -1)
                self.assertEqual(compare_for_rods(rod, BACK, share), 1)

    def test_all_longer_rods_have_the_sign(self):
        longer = [(k, 1) for k in range(2, 40)] + [(k * k * k, 2) for k in range(3, 40, 2)] + [(3, 2), (GREAT, 1)]
        for angle in angles_up_to(2, 2):
            for rod in ((3, 2), (2, 1), (4, 1)):
                for share in SHARES[:5]:
                    found = compare_for_rods(rod, angle, share)
                    signs = {compare_share(one, angle, share) for one in longer + [rod] if Fraction(*one) >= Fraction(*rod)}
                    if found is None:
                        self.assertTrue(len(signs) > 1, (rod, angle, share))
                    else:
                        self.assertEqual(signs, {found}, (rod, angle, share))


class CompareEvent(unittest.TestCase):
    def test_as_compare_share_at_the_event(self):
        for valve in some_valves(40, 97):
            for end in ENDS:
                for event in EVENTS:
                    angle = event_angle(valve, end, event)
                    for rod in RODS[:4]:
                        for share in SHARES[:4]:
                            found = compare_event(valve, rod, end, event, share)
                            due = None if angle is None else compare_share(rod, angle, share)
                            self.assertEqual(found, due)

    def test_counted_from_the_head_for_both_ends(self):
        # The crank end cuts off where the cosine is 7 / 25, at 9 / 25 of the stroke from the head's dead centre.
        self.assertEqual(compare_event(SLIDE, None, "crank", "cutoff", (9, 25)), 0)
        self.assertEqual(compare_event(SLIDE, None, "head", "cutoff", (16, 25)), 0)
        self.assertEqual(compare_event(SLIDE, None, "head", "admission", (1, 1000)), -1)
        self.assertEqual(compare_event(SLIDE, None, "crank", "admission", (999, 1000)), 1)
        self.assertEqual(compare_event(SLIDE, None, "head", "release", (9, 10)), 0)
        self.assertEqual(compare_event(SLIDE, None, "crank", "release", (1, 10)), 0)

    def test_none_without_the_event(self):
        valve = (1, (3, 4), (5, 6, -5, 0), 2)
        for event in EVENTS:
            self.assertIsNone(compare_event(valve, None, "head", event, (1, 2)))
        self.assertIsNone(compare_event(valve, None, "crank", "cutoff", (1, 2)))
        self.assertIsNone(compare_event(valve, None, "crank", "admission", (1, 2)))
        self.assertIsNotNone(compare_event(valve, None, "crank", "release", (1, 2)))
        self.assertIsNone(compare_event((1, (0, 0), (0, 0, 0, 0), 1), None, "crank", "cutoff", (1, 2)))


class ComparePistons(unittest.TestCase):
    def test_against_the_places(self):
        for form in FORMS:
            angles = angles_up_to(form, 2)[::2] + [on_way(form, way) for way in ways_up_to(1)]
            shares = [oracle.stroke_share(None, oracle.arrow(angle)[0]) for angle in angles]
            for angle, share in zip(angles, shares):
                for other, far in zip(angles, shares):
                    self.assertEqual(compare_pistons(angle, other), oracle.sign(share - far), (angle, other))

    def test_mirrored_places_are_alike(self):
        for angle in angles_up_to(3, 2):
            self.assertEqual(compare_pistons(angle, mirrored_angle(angle)), 0)
        self.assertEqual(compare_pistons(FRONT, BACK), -1)
        self.assertEqual(compare_pistons(BACK, FRONT), 1)

    def test_hardly_parted(self):
        low, high = (1, -GREAT, 0, 1 - GREAT), (1, -GREAT - 1, 0, -GREAT)
        self.assertEqual(compare_pistons(low, high), 1)
        self.assertEqual(compare_pistons(high, low), -1)
        self.assertEqual(compare_pistons(low, (1, GREAT, 0, GREAT - 1)), 0)


class CompareCutoffs(unittest.TestCase):
    def test_told(self):
        self.assertEqual(compare_cutoffs(SLIDE), 0)
        # A greater lap cuts off earlier.
        self.assertEqual(compare_cutoffs((1, (3, 4), (2, 0, 3, 0), 2)), 1)
        self.assertEqual(compare_cutoffs((1, (3, 4), (4, 0, 3, 0), 2)), -1)
        self.assertEqual(compare_cutoffs((1, (0, GREAT), (1, 0, 2, 0), 2)), 1)

    def test_none_if_one_lacks(self):
        for laps in ((5, 0, 3, 0), (3, 0, 5, 0), (-5, 0, 3, 0), (3, 0, -5, 0), (6, 0, 6, 0), (3, 0, 9, 0)):
            self.assertIsNone(compare_cutoffs((1, (3, 4), laps, 2)))
        self.assertIsNone(compare_cutoffs((1, (0, 0), (0, 0, 0, 0), 1)))

    def test_against_the_places(self):
        for valve in some_valves(150, 101):
            angles = [event_angle(valve, end, "cutoff") for end in ENDS]
            if None in angles:
                self.assertIsNone(compare_cutoffs(valve))
                continue
            head, crank = [oracle.stroke_share(None, oracle.arrow(angle)[0]) for angle in angles]
            self.assertEqual(compare_cutoffs(valve), oracle.sign(head - (1 - crank)), valve)
            half_on = is_same_place(angles[0], opposite_angle(angles[1]))
            self.assertIs(half_on, valve[2][0] == valve[2][2])


class ByName(unittest.TestCase):
    def test_pistons(self):
        self.assertEqual(share_angle(stroke="out", share=(1, 4), rod=None, form=1), (1, -2, 0, -1))
        self.assertEqual(compare_share(share=(1, 2), angle=BACK, rod=None), 1)
        self.assertEqual(compare_for_rods(share=(1, 2), angle=BACK, rod=(2, 1)), 1)
        self.assertEqual(compare_event(share=(16, 25), event="cutoff", end="head", rod=None, valve=SLIDE), 0)
        self.assertEqual(compare_pistons(other=BACK, angle=FRONT), -1)
        self.assertEqual(compare_cutoffs(valve=SLIDE), 0)
        self.assertEqual(gcd(*share_angle(1, (7, 3), (2, 9), "out")[1::2]), 1)


if __name__ == "__main__":
    unittest.main()
