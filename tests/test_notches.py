import unittest
from fractions import Fraction
from random import Random

from steamlinks.errors import InvalidLot, InvalidPoint
from steamlinks.knots import compare_points, is_knot, is_point, ratio_between
from steamlinks.links import lead_at, valve_at
from steamlinks.notches import any_notch, are_same_lots, blow_notches, event_notches, is_lot, late_notches, lead_notches
from steamlinks.notches import lot_both, lot_either, lot_holds, lot_rest, state_notches
from steamlinks.pistons import share_angle
from steamlinks.valves import blows, event_angle, state_at
from tests import oracle
from tests.samples import FORMS, GREAT, NOTCHES, angles_up_to, some_links

ENDS = ("head", "crank")
EVENTS = ("admission", "cutoff", "release", "compression")
STATES = ("steam", "exhaust", "both", "closed")
LEAST, MOST = (-1, 1), (1, 1)
ALL = ((LEAST, True, MOST, True),)
LOW, HIGH = ((-1, 0, 2), 0), ((-1, 0, 2), 1)
# The same numbers as LOW and HIGH.
OTHER_LOW, OTHER_HIGH = ((-1, 0, 0, 0, 4), 0), ((3, 0, -7, 0, 2), 2)


def only(*points):
    return tuple((point, True, point, True) for point in points)


def all_but(*points):
    """All numbers from -1 to 1 but some strictly between."""
    ends = (LEAST,) + points + (MOST,)
    return tuple((low, low == LEAST, high, high == MOST) for low, high in zip(ends, ends[1:]))


LOTS = (
    (), ALL, only((0, 1)), only(LOW), only(LOW, (0, 1), HIGH), only(LEAST, MOST), all_but((0, 1)), all_but(LOW, HIGH), all_but(LOW, (0, 1)),
    ((LEAST, False, MOST, False),), ((LEAST, True, LOW, True), (HIGH, False, MOST, True)), ((LOW, False, HIGH, True),),
    ((LOW, True, (0, 1), False), ((0, 1), False, HIGH, False)), (((-1, 2), True, (1, 2), False), ((1, 2), False, (3, 4), True)),
    ((LEAST, False, (-1, 2), True), (HIGH, True, MOST, False)), (((1, GREAT), False, (3, GREAT), True),),
    only((-1, 2)) + (((1, 3), True, HIGH, False),),
)


def points_around(*lots):
    """-1, 1, all ends of the lots, and a ratio between each two neighbours."""
    ends = [LEAST, MOST] + [stretch[index] for lot in lots for stretch in lot for index in (0, 2)]
    row = []
    for end in ends:
        if 0 not in [compare_points(end, other) for other in row]:
            row.insert(len([other for other in row if compare_points(other, end) < 0]), end)
    return row + [ratio_between(low, high) for low, high in zip(row, row[1:])]


def is_in(lot, point):
    """Straight from point 20."""
    for low, has_low, high, has_high in lot:
        first, last = compare_points(low, point), compare_points(point, high)
        if (first < 0 or (first == 0 and has_low)) and (last < 0 or (last == 0 and has_high)):
            return True
    return False


class IsLot(unittest.TestCase):
    def test_what_is_one(self):
        for lot in LOTS + (
            ((OTHER_LOW, True, LOW, True),), ((LOW, True, OTHER_LOW, True), (OTHER_HIGH, False, MOST, True)), (((-1, 1), True, (0, 1), False), ((0, 1), False, (1, 2), True)),
            ((LOW, True, (0, 1), True), ((1, GREAT), True, HIGH, True)), ((LOW, False, HIGH, False), (OTHER_HIGH, False, MOST, False)),
        ):
            self.assertIs(is_lot(lot), True, lot)
            self.assertIs(is_lot(value=lot), True)

    def test_what_is_none(self):
        for lot in (
            # Neighbours that share a number, or leave none out.
            ((LEAST, True, (0, 1), True), ((0, 1), True, MOST, True)), ((LEAST, True, (0, 1), False), ((0, 1), True, MOST, True)),
            ((LEAST, True, (0, 1), True), ((0, 1), False, MOST, True)), ((LEAST, True, (1, 2), True), ((0, 1), True, MOST, True)),
            ((LEAST, True, LOW, True), (OTHER_LOW, False, MOST, True)), ((LEAST, True, LOW, False), (OTHER_LOW, True, OTHER_LOW, True)),
            only((0, 1), (0, 1)), only(LOW, OTHER_LOW), ALL + ALL,
            # Not ascending.
            only(MOST, LEAST), only(HIGH, LOW), only(LEAST, HIGH, (0, 1)), only(LEAST, (0, 1), (0, 1)), only(LEAST, LOW, HIGH, (7, 10)), ((HIGH, True, LOW, True),), ((MOST, True, LEAST, True),), ((HIGH, True, (7, 10), True),),
            only((0, 1)) + only((-1, GREAT)),
            # Single points that do not belong, told by one or two knots.
            (((0, 1), True, (0, 1), False),), (((0, 1), False, (0, 1), True),), (((0, 1), False, (0, 1), False),), ((LOW, False, OTHER_LOW, True),),
            # Beyond -1 or 1.
            ((LEAST, True, (3, 2), True),), (((-2, 1), True, MOST, True),), ((LEAST, True, ((-2, 0, 1), 1), False),), ((((-2, 0, 1), 0), False, MOST, True),),
            only((2, 1)), only((-GREAT, 1)), ((LEAST, True, (GREAT + 1, GREAT), False),),
            # No stretches, no points, no truths, no tuples.
            (LEAST, True, MOST, True), ((LEAST, True, MOST),), ((LEAST, True, MOST, True, True),), [(LEAST, True, MOST, True)], ([LEAST, True, MOST, True],),
            ((LEAST, 1, MOST, True),), ((LEAST, True, MOST, 0),), ((LEAST, None, MOST, True),), ((LEAST, True, (2, 2), True),), (((-1, 0, 1), True, MOST, True),),
            ((((-1, 0, 1), 0), True, MOST, True),), ((LEAST, True, ((-1, 0, 2), 2), True),), ((-1, True, 1, True),), ((None, True, None, True),), (None,), ((),),
            ALL + (None,), (None,) + ALL,
        ):
            self.assertIs(is_lot(lot), False, lot)
            for call in (lambda: lot_holds(lot, (0, 1)), lambda: lot_rest(lot), lambda: lot_both(ALL, lot), lambda: lot_either(lot, 5), lambda: any_notch(lot)):
                with self.assertRaises(InvalidLot) as told:
                    call()
                self.assertIs(told.exception.given, lot)


class Lots(unittest.TestCase):
    def check_lot(self, lot, points, due):
        self.assertIs(is_lot(lot), True, lot)
        for point in points:
            self.assertIs(is_in(lot, point), due(point), (lot, point))
            self.assertIs(lot_holds(lot, point), due(point))

    def test_holds(self):
        for lot, inside, outside in (
            ((), (), ((0, 1), MOST, LOW)), (ALL, (LEAST, MOST, (0, 1), LOW, OTHER_HIGH), ((2, 1), (-2, 1), ((-2, 0, 1), 1), ((-2, 0, 1), 0))),
            (only(LOW), (LOW, OTHER_LOW), (HIGH, (-7, 10), (-5, 7))), (all_but(HIGH), ((5, 7), (7, 10), LOW), (HIGH, OTHER_HIGH)),
            (((LOW, False, HIGH, True),), (HIGH, OTHER_HIGH, (7, 10), (0, 1)), (LOW, OTHER_LOW, (5, 7), MOST)),
        ):
            for point in inside:
                self.assertIs(lot_holds(lot, point), True)
                self.assertIs(lot_holds(lot=lot, point=point), True)
            for point in outside:
                self.assertIs(lot_holds(lot, point), False)
        with self.assertRaises(InvalidPoint):
            lot_holds(ALL, (2, 4))

    def test_rest(self):
        for lot, due in (
            ((), ALL), (ALL, ()), (only((0, 1)), all_but((0, 1))), (all_but(LOW, HIGH), only(LOW, HIGH)), (only(LEAST, MOST), ((LEAST, False, MOST, False),)),
            (((LOW, False, HIGH, True),), ((LEAST, True, LOW, True), (HIGH, False, MOST, True))),
        ):
            self.assertEqual(lot_rest(lot), due)
            self.assertEqual(lot_rest(lot=due), lot)
        for lot in LOTS:
            self.check_lot(lot_rest(lot), points_around(lot) + [OTHER_LOW, OTHER_HIGH], lambda point: not is_in(lot, point))
            self.assertIs(are_same_lots(lot_rest(lot_rest(lot)), lot), True)

    def test_both_and_either(self):
        self.assertEqual(lot_both(lot=ALL, other=only(LOW)), only(LOW))
        self.assertEqual(lot_either(lot=((LEAST, True, (0, 1), False),), other=(((0, 1), True, MOST, True),)), ALL)
        self.assertEqual(lot_either(all_but(HIGH), only(OTHER_HIGH)), ALL)
        self.assertEqual(lot_both(((LEAST, True, LOW, True),), ((OTHER_LOW, True, MOST, True),))[0][1::2], (True, True))
        for lot in LOTS:
            for other in LOTS:
                points = points_around(lot, other)
                self.check_lot(lot_both(lot, other), points, lambda point: is_in(lot, point) and is_in(other, point))
                self.check_lot(lot_either(lot, other), points, lambda point: is_in(lot, point) or is_in(other, point))

    def test_beyond_the_ends_there_is_nothing(self):
        for point in ((2, 1), (-2, 1), ((-2, 0, 1), 0), ((-2, 0, 1), 1), (GREAT, 1), (GREAT + 1, GREAT)):
            for lot in LOTS:
                self.assertIs(lot_holds(lot, point), False)
                self.assertIs(lot_holds(lot_rest(lot), point), False)

    def test_same_numbers(self):
        for index, lot in enumerate(LOTS):
            for place, other in enumerate(LOTS):
                self.assertIs(are_same_lots(lot, other), index == place)
        for lot, other, due in (
            (only(LOW), only(OTHER_LOW), True), (only(LOW), ((LOW, True, OTHER_LOW, True),), True), (only(LOW), only(HIGH), False),
            (((LOW, False, HIGH, True),), ((OTHER_LOW, False, OTHER_HIGH, True),), True), (((LOW, False, HIGH, True),), ((OTHER_LOW, True, OTHER_HIGH, True),), False),
            (((LOW, False, HIGH, True),), ((LOW, False, HIGH, False),), False), (((LOW, True, (0, 1), True),), ((LOW, True, (1, GREAT), True),), False),
        ):
            self.assertIs(are_same_lots(lot, other), due)
            self.assertIs(are_same_lots(lot=other, other=lot), due)

    def test_any_notch(self):
        for lot in LOTS:
            notch = any_notch(lot)
            if all([low == high and is_knot(low) for low, _, high, _ in lot]):
                # A number that is no ratio alone leaves no ratio, nor does ().
                self.assertIsNone(notch)
            else:
                self.assertTrue(is_point(notch) and not is_knot(notch) and is_in(lot, notch), (lot, notch))
        self.assertEqual(any_notch(lot=only((1, 3))), (1, 3))
        self.assertEqual(any_notch(only(LOW, (1, 3))), (1, 3))
        self.assertIsNone(any_notch(()))


class OfLinks(unittest.TestCase):
    """The lots of links against the valves at ratios, and against decimals at their ends."""

    def check(self, lot, at_notch, at_number, message):
        self.assertIs(is_lot(lot), True, (message, lot))
        for point in points_around(lot):
            if not is_knot(point):
                self.assertIs(is_in(lot, point), at_notch(point), (message, lot, point))
            else:
                self.assertIs(is_in(lot, point), at_number(oracle.number(point)), (message, lot, point))
        for notch in NOTCHES:
            self.assertIs(is_in(lot, notch), at_notch(notch), (message, lot, notch))

    def eccentric(self, link, t):
        return [link[1][i] + t * link[2][i] + t * t * link[3][i] for i in (0, 1)]

    def events_at(self, link, end, event, t):
        form, laps = link[0], link[4]
        lap = laps[0 if end == "head" else 2] if event in ("admission", "cutoff") else laps[1 if end == "head" else 3]
        x, y = self.eccentric(link, t)
        return oracle.sign(x * x + form * y * y - lap * lap) > 0

    def test_events(self):
        for link in some_links(70, 31):
            for end in ENDS:
                for event in EVENTS:
                    self.check(
                        event_notches(link, end, event), lambda t: event_angle(valve_at(link, t), end, event) is not None,
                        lambda t: self.events_at(link, end, event, t), (link, end, event),
                    )

    def test_leads(self):
        for link in some_links(70, 32):
            for end in ENDS:
                for ratio in ((0, 1), (1, 2), (-3, 1), (5, 3)):
                    lap = link[4][0 if end == "head" else 2]
                    self.check(
                        lead_notches(link, end, ratio), lambda t: Fraction(*lead_at(link, end, t)) > Fraction(*ratio),
                        lambda t: oracle.sign((self.eccentric(link, t)[0] - lap) * ratio[1] - ratio[0]) > 0, (link, end, ratio),
                    )

    def state_at_number(self, link, angle, end, t):
        return oracle.state((link[0], self.eccentric(link, t), link[4], 1), end, oracle.arrow(angle))

    def test_states(self):
        chance = Random(33)
        angles = {form: angles_up_to(form, 3) for form in FORMS}
        for link in some_links(160, 33):
            for angle in chance.sample(angles[link[0]], 2):
                end = chance.choice(ENDS)
                for state in STATES:
                    self.check(
                        state_notches(link, angle, end, state), lambda t: state_at(valve_at(link, t), end, angle) == state,
                        lambda t: self.state_at_number(link, angle, end, t) == state, (link, angle, end, state),
                    )

    def test_each_notch_has_one_state(self):
        for link in some_links(20, 34):
            for angle in ((link[0], 0, 1, 0), (link[0], 1, 2, 1)):
                for end in ENDS:
                    lots = [state_notches(link, angle, end, state) for state in STATES]
                    self.assertIs(are_same_lots(lot_either(lot_either(lots[0], lots[1]), lot_either(lots[2], lots[3])), ALL), True)
                    for index, lot in enumerate(lots):
                        for other in lots[index + 1:]:
                            self.assertEqual(lot_both(lot, other), ())

    def test_late_cutoffs(self):
        chance = Random(35)
        for link in some_links(120, 35):
            end, rod = chance.choice(ENDS), chance.choice((None, (2, 1), (5, 1), (7, 5), (101, 100)))
            part, whole = chance.choice(((1, 2), (1, 3), (3, 4), (4, 5), (1, 100)))
            if end == "head":
                angle = share_angle(link[0], rod, (part, whole), "out")
            else:
                angle = share_angle(link[0], rod, (whole - part, whole), "back")
            self.check(
                late_notches(link, end, rod, (part, whole)), lambda t: state_at(valve_at(link, t), end, angle) in ("steam", "both"),
                lambda t: self.state_at_number(link, angle, end, t) in ("steam", "both"), (link, end, rod, part, whole),
            )

    def blows_at(self, link, end, t):
        x, y = self.eccentric(link, t)
        laps = link[4][:2] if end == "head" else link[4][2:]
        far = [lap < 0 or oracle.sign(x * x + link[0] * y * y - lap * lap) > 0 for lap in laps]
        return laps[0] < -laps[1] and all(far)

    def test_blows(self):
        for link in some_links(150, 36):
            for end in ENDS:
                self.check(blow_notches(link, end), lambda t: blows(valve_at(link, t), end), lambda t: self.blows_at(link, end, t), (link, end))


class Edges(unittest.TestCase):
    """Conditions that hold everywhere, nowhere, at one number alone, at all but one, up to ratios and others."""

    def check(self, found, due):
        self.assertIs(is_lot(found), True)
        self.assertIs(are_same_lots(found, due), True, (found, due))

    def test_events(self):
        for link, end, event, due in (
            ((1, (0, 4), (3, 0), (0, 0), (1, 0, 1, 0), 1), "head", "admission", ALL), ((1, (0, 4), (3, 0), (0, 0), (5, 0, 1, 0), 1), "head", "cutoff", ()),
            ((1, (0, 4), (3, 0), (0, 0), (4, 0, 1, 0), 1), "head", "cutoff", all_but((0, 1))),
            ((1, (0, 4), (3, 0), (0, 0), (4, 0, 1, -5), 1), "crank", "release", ()), ((1, (0, 4), (3, 0), (0, 0), (4, 0, 1, -4), 1), "crank", "compression", all_but((0, 1))),
            ((1, (0, 4), (3, 0), (0, 0), (4, 0, 1, 6), 1), "crank", "release", ()), ((1, (0, 0), (0, 0), (0, 0), (0, 0, 0, 0), 1), "head", "admission", ()),
            ((1, (0, 0), (1, 0), (0, 0), (0, 0, 0, 0), 1), "head", "release", all_but((0, 1))), ((1, (0, 0), (2, 0), (0, 0), (1, 0, 0, 0), 1), "head", "cutoff", ((LEAST, True, (-1, 2), False), ((1, 2), False, MOST, True))),
            ((1, (0, 0), (1, 1), (0, 0), (1, 0, 1, 0), 1), "head", "admission", ((LEAST, True, LOW, False), (HIGH, False, MOST, True))),
            # N(E) - L * L touches 0 at a number that is no ratio, and only at the ends.
            ((1, (-1, 3), (0, 0), (2, 0), (3, 0, 0, 0), 1), "head", "admission", all_but(LOW, HIGH)), ((1, (0, 1), (0, 0), (-1, 0), (1, -1, 0, 0), 1), "head", "release", all_but((0, 1))),
            ((1, (1, 0), (0, 0), (-1, 0), (0, 0, 0, 1), 1), "crank", "release", ()),
            ((1, (0, 3), (1, 0), (0, 0), (3, 0, 0, 0), 1), "head", "admission", all_but((0, 1))),
        ):
            self.check(event_notches(link, end, event), due)
            self.check(event_notches(link=link, end=end, event=event), due)

    def test_leads(self):
        link = (1, (1, 4), (0, 0), (2, 0), (2, 0, 0, 0), 1)
        for end, ratio, due in (
            ("head", (-1, 1), all_but((0, 1))), ("head", (-2, 1), ALL), ("head", (1, 1), ()), ("head", (0, 1), ((LEAST, True, LOW, False), (HIGH, False, MOST, True))),
            ("crank", (1, 1), all_but((0, 1))), ("crank", (3, 1), ()), ("head", (-1, 2), ((LEAST, True, (-1, 2), False), ((1, 2), False, MOST, True))),
        ):
            self.check(lead_notches(link, end, ratio), due)
            self.check(lead_notches(link=link, end=end, ratio=ratio), due)
        # A lead that is the same at all notches makes a polynomial that is () for just one ratio.
        link = (1, (3, 4), (0, 1), (0, 2), (2, 0, 1, 0), 1)
        for ratio, due in (((1, 1), ()), ((0, 1), ALL), ((2, 1), ()), ((GREAT - 1, GREAT), ALL)):
            self.check(lead_notches(link, "head", ratio), due)

    def test_states_at_one_number_alone(self):
        # x is above 0 by a square that is 0 at the root of 1 / 2 alone: 2 * E1 + E0 * R with R * R = 2.
        link, angle = (2, (0, 1), (-4, 0), (0, 2), (0, 9, 9, 9), 1), (2, 0, 1, 1)
        self.check(state_notches(link, angle, "head", "closed"), only(HIGH))
        self.check(state_notches(link=link, angle=angle, end="head", state="steam"), all_but(HIGH))
        self.check(state_notches(link, angle, "head", "both"), ())
        link = (2, (0, 1), (4, 0), (0, 2), (0, 9, 9, 9), 1)
        self.check(state_notches(link, angle, "head", "closed"), only(LOW))
        self.assertIsNone(any_notch(state_notches(link, angle, "head", "closed")))
        # At (0, 1) the valve stands at E1.
        top = (1, -1, 0, 0)
        link = (1, (0, 0), (0, 0), (0, 1), (0, 5, 5, 5), 1)
        self.check(state_notches(link, top, "head", "closed"), only((0, 1)))
        self.check(state_notches(link, top, "head", "steam"), all_but((0, 1)))
        link = (1, (0, 1), (0, 0), (0, -1), (1, 5, 5, 5), 1)
        self.check(state_notches(link, top, "head", "steam"), ())
        self.check(state_notches(link, top, "head", "closed"), ALL)
        link = (1, (0, 1), (0, 0), (0, -1), (1, -1, 5, 5), 1)
        self.check(state_notches(link, top, "head", "closed"), only((0, 1)))
        self.check(state_notches(link, top, "head", "exhaust"), all_but((0, 1)))

    def test_states_of_a_link_without_an_eccentric(self):
        link = (1, (0, 0), (0, 0), (0, 0), (-1, 0, 0, -1), 1)
        for angle in ((1, 1, 0, 0), (1, 2, 2, 1)):
            for end, state, due in (
                ("head", "steam", ALL), ("head", "both", ()), ("head", "closed", ()), ("crank", "exhaust", ALL), ("crank", "steam", ()),
            ):
                self.check(state_notches(link, angle, end, state), due)

    def test_late_cutoffs(self):
        link = (1, (0, 4), (3, 0), (0, 0), (1, 0, 1, 0), 1)
        for end, rod, share, due in (
            ("head", None, (1, 2), ALL), ("crank", None, (1, 2), ALL),
            # At a share of 9 / 10 out, cos is -4 / 5, sin 3 / 5: -12 / 5 * t + 12 / 5 above 1.
            ("head", None, (9, 10), ((LEAST, True, (7, 12), False),)), ("crank", None, (9, 10), ((LEAST, True, (7, 12), False),)),
            # With the rod 2 the share 1 / 2 is at cos = -1 / 4: -3 / 4 * t + the root of 15 is above 1 for all t.
            ("head", (2, 1), (1, 2), ALL),
        ):
            self.check(late_notches(link, end, rod, share), due)
            self.check(late_notches(link=link, end=end, rod=rod, share=share), due)
        # With the rod the crank end's piston stands elsewhere at the same share of its own stroke.
        head, crank = late_notches(link, "head", (3, 2), (9, 10)), late_notches(link, "crank", (3, 2), (9, 10))
        self.assertIs(are_same_lots(head, crank), False)

    def test_blows(self):
        for link, end, due in (
            ((1, (0, 4), (3, 0), (0, 0), (-1, -1, 1, 0), 1), "head", ALL), ((1, (0, 4), (3, 0), (0, 0), (-1, -1, 1, 0), 1), "crank", ()),
            ((1, (0, 0), (0, 0), (0, 0), (-1, -1, 1, 0), 1), "head", ALL), ((1, (0, 4), (3, 0), (0, 0), (4, -5, 1, 0), 1), "head", all_but((0, 1))),
            ((1, (0, 4), (3, 0), (0, 0), (1, 0, 4, -5), 1), "crank", all_but((0, 1))), ((1, (0, 4), (3, 0), (0, 0), (-7, 6, 4, -5), 1), "head", ()),
            ((1, (0, 4), (3, 0), (0, 0), (4, -4, 1, 0), 1), "head", ()), ((1, (0, 0), (1, 1), (0, 0), (1, -2, -2, 1), 1), "head", ((LEAST, True, LOW, False), (HIGH, False, MOST, True))),
            ((1, (0, 0), (1, 1), (0, 0), (1, -2, -2, 1), 1), "crank", ((LEAST, True, LOW, False), (HIGH, False, MOST, True))),
            ((1, (0, 0), (1, 1), (0, 0), (0, -2, -2, 0), 1), "crank", all_but((0, 1))),
        ):
            self.check(blow_notches(link, end), due)
            self.check(blow_notches(link=link, end=end), due)

    def test_great_numbers(self):
        link = (1, (0, 0), (GREAT, 1), (0, 0), (1, 0, GREAT, GREAT + 1), 1)
        ends = event_notches(link, "head", "admission")
        self.assertEqual([stretch[1::2] for stretch in ends], [(True, False), (False, True)])
        self.assertTrue(is_knot(ends[0][2]) and is_knot(ends[1][0]))
        self.assertEqual(compare_points(ends[1][0], (1, GREAT)), -1)
        self.assertEqual(compare_points(ends[1][0], (GREAT - 1, GREAT * GREAT)), 1)
        self.check(event_notches(link, "crank", "release"), ())
        near = event_notches(link, "crank", "admission")
        self.assertEqual([compare_points(near[1][0], MOST), compare_points(near[1][0], (GREAT - 1, GREAT))], [-1, 1])


if __name__ == "__main__":
    unittest.main()
