import unittest
from math import gcd

from steamlinks.angles import angle_of, falling_angle, is_angle, way_angle
from steamlinks.places import is_before, is_same_place, mirrored_angle, opposite_angle, turned, turned_angle
from steamlinks.regions import cuts, holds, is_always, is_never, is_region, is_same_region
from steamlinks.valves import blows, event_angle, events, exchanged_valve, is_valve, leads, reversed_valve, state_at
from steamlinks.valves import state_region, turned_valve, valve_of
from tests import oracle
from tests.samples import FORMS, GREAT, TURNS, angles_up_to, on_way, some_valves, ways_up_to
from tests.test_regions import cells

ENDS = ("head", "crank")
STATES = ("steam", "exhaust", "both", "closed")
EVENTS = ("admission", "cutoff", "release", "compression")
SLIDE = (1, (3, 4), (3, 0, 3, 0), 2)
TOP = way_angle(1, (0, 1))
FRONT = way_angle(1, (1, 0))


def due_event(valve, end, event):
    """An event's angle straight from point 13, None if there is none."""
    form, vector, (sh, xh, sc, xc), _ = valve
    level, make = {
        ("head", "admission"): (sh, angle_of), ("head", "cutoff"): (sh, falling_angle),
        ("head", "release"): (-xh, falling_angle), ("head", "compression"): (-xh, angle_of),
        ("crank", "admission"): (-sc, falling_angle), ("crank", "cutoff"): (-sc, angle_of),
        ("crank", "release"): (xc, angle_of), ("crank", "compression"): (xc, falling_angle),
    }[end, event]
    return make(form, vector, level) if level * level < oracle.norm(form, vector) else None


def event_angles(valve):
    found = [due_event(valve, end, event) for end in ENDS for event in EVENTS]
    return [angle for angle in found if angle is not None]


class IsValve(unittest.TestCase):
    def test_valves(self):
        for valve in (
            SLIDE, (1, (0, 0), (0, 0, 0, 0), 1), (3, (-2, 0), (-4, -6, 8, 0), 1), (2, (2, 4), (6, 8, 10, 3), 12),
            (1, (GREAT, 0), (1, -GREAT, 0, 0), GREAT), (1, (0, 0), (1, 0, 0, 0), 2), (2, (9, 9), (-9, 9, 9, 9), 10),
        ):
            self.assertIs(is_valve(valve), True, valve)

    def test_no_valves(self):
        for valve in (
            None, (), 1, "valve", list(SLIDE), SLIDE[:3], SLIDE + (1,), (0,) + SLIDE[1:], (4,) + SLIDE[1:],
            (True,) + SLIDE[1:], (None,) + SLIDE[1:], (1, [3, 4], (3, 0, 3, 0), 2), (1, (3, 4), [3, 0, 3, 0], 2),
            (1, (3,), (3, 0, 3, 0), 2), (1, (3, 4, 5), (3, 0, 3, 0), 2), (1, (3, 4), (3, 0, 3), 2),
            (1, (3, 4), (3, 0, 3, 0, 0), 2), (1, (True, 4), (3, 0, 3, 0), 2), (1, (3, 4), (3, False, 3, 0), 2),
            (1, (3, 4), (3, 0, 3, 0), True), (1, (3, 4), (3, 0, 3, 0), 0), (1, (3, 4), (3, 0, 3, 0), -2),
            (1, (3, 4), (3, 0, 3, 0), None), (1, (3, 4), (3, 0, 3, 0), (2,)), (1, 3, (3, 0, 3, 0), 2),
            (1, (3, 4), 3, 2), (1, (6, 8), (6, 0, 6, 0), 4), (1, (0, 0), (0, 0, 0, 0), 2), (1, (0, 0), (-3, 0, 0, 6), 3),
            (1, (3, "4"), (3, 0, 3, 0), 2), ((1, (3, 4), (3, 0, 3, 0), 2),), (1, (3, 4), ((3, 0), (3, 0)), 2),
            (1, 3, 4, 3, 0, 3, 0, 2), {1: (3, 4)}, (1, (3, 4), (3, 0, None, 0), 2),
        ):
            self.assertIs(is_valve(valve), False, valve)


class ValveOf(unittest.TestCase):
    def test_reduces_whatever_factor_there_was(self):
        for factor in (1, 2, 3, 35, GREAT):
            for form, vector, laps, port in some_valves(12, 3):
                made = valve_of(form, tuple(factor * n for n in vector), tuple(factor * n for n in laps), factor * port)
                self.assertEqual(made, (form, vector, laps, port))
                self.assertTrue(is_valve(made))

    def test_signs_stay(self):
        self.assertEqual(valve_of(2, (-6, 0), (-4, 0, 2, -8), 10), (2, (-3, 0), (-2, 0, 1, -4), 5))
        self.assertEqual(valve_of(1, (0, 0), (0, 0, 0, 0), 9), (1, (0, 0), (0, 0, 0, 0), 1))
        self.assertEqual(valve_of(1, (4, 6), (8, 10, 12, 14), 3), (1, (4, 6), (8, 10, 12, 14), 3))


class StateAt(unittest.TestCase):
    def test_at_angles_of_any_kind(self):
        for form in FORMS:
            places = [(angle, oracle.arrow(angle)) for angle in angles_up_to(form, 1) + [on_way(form, (3, -2))]]
            for valve in some_valves(40, 23 + form, most=3):
                valve = (form,) + valve[1:]
                for angle, place in places:
                    for end in ENDS:
                        due = oracle.state(valve, end, place)
                        self.assertEqual(state_at(valve, end, angle), due, (valve, end, angle))

    def test_at_the_own_events_the_edge_does_not_belong(self):
        for valve in some_valves(60, 29):
            for angle in event_angles(valve):
                for end in ENDS:
                    due = oracle.state(valve, end, oracle.arrow(angle))
                    self.assertEqual(state_at(valve, end, angle), due, (valve, end, angle))

    def test_all_four_states_at_both_ends(self):
        valve = (1, (3, 4), (-1, -1, -2, -2), 2)
        self.assertEqual(state_at(valve, "head", FRONT), "steam")
        self.assertEqual(state_at(valve, "crank", FRONT), "exhaust")
        self.assertEqual(state_at(valve, "head", way_angle(1, (-1, 0))), "exhaust")
        self.assertEqual(state_at(valve, "crank", way_angle(1, (-1, 0))), "steam")
        for end in ENDS:
            self.assertEqual(state_at(valve, end, way_angle(1, (-4, 3))), "both")
            self.assertEqual(state_at((1, (3, 4), (1, 1, 1, 1), 2), end, way_angle(1, (-4, 3))), "closed")

    def test_without_an_eccentric(self):
        for laps, head, crank in (
            ((0, 0, 0, 0), "closed", "closed"), ((-1, 0, 0, -1), "steam", "exhaust"), ((0, -1, -1, 0), "exhaust", "steam"),
            ((-1, -1, 1, 1), "both", "closed"), ((1, 1, -1, -1), "closed", "both"),
        ):
            for angle in (FRONT, TOP, (1, 2, 2, 1)):
                self.assertEqual(state_at((1, (0, 0), laps, 1), "head", angle), head)
                self.assertEqual(state_at((1, (0, 0), laps, 1), "crank", angle), crank)

    def test_hardly_open(self):
        valve = (1, (GREAT, 0), (GREAT - 1, GREAT - 1, GREAT - 1, GREAT - 1), 1)
        self.assertEqual([state_at(valve, end, FRONT) for end in ENDS], ["steam", "exhaust"])
        self.assertEqual([state_at(valve, end, way_angle(1, (-1, 0))) for end in ENDS], ["exhaust", "steam"])
        self.assertEqual([state_at(valve, end, way_angle(1, (GREAT, GREAT - 1))) for end in ENDS], ["closed", "closed"])


class StateRegion(unittest.TestCase):
    def test_just_the_places_of_the_state(self):
        for valve in some_valves(40, 31):
            form = valve[0]
            for end in ENDS:
                regions = {state: state_region(valve, end, state) for state in STATES}
                for state, region in regions.items():
                    self.assertTrue(is_region(region))
                    self.assertEqual(region[0], form)
                for angle in event_angles(valve) + angles_up_to(form, 1) + [on_way(form, way) for way in ways_up_to(1)]:
                    due = oracle.state(valve, end, oracle.arrow(angle))
                    self.assertEqual([state for state in STATES if holds(regions[state], angle)], [due])

    def test_touches(self):
        valve = (1, (3, 4), (5, -5, -5, 5), 1)
        self.assertTrue(is_never(state_region(valve, "head", "steam")))
        self.assertEqual(state_at(valve, "head", way_angle(1, (3, 4))), "closed")
        self.assertTrue(is_same_region(state_region(valve, "head", "closed"), (1, ("not", ("side", (-3, -4), -5)))))
        self.assertTrue(is_same_region(state_region(valve, "crank", "closed"), (1, ("not", ("side", (-3, -4), -5)))))
        self.assertTrue(is_always(state_region((1, (3, 4), (6, 6, 6, 6), 1), "crank", "closed")))


class Events(unittest.TestCase):
    def test_the_example_in_full(self):
        self.assertEqual(events(SLIDE), (
            ("head", "admission", (1, 3, 4, 3)), ("head", "cutoff", (1, -3, -4, -3)),
            ("crank", "compression", (1, -3, -4, 0)), ("head", "release", (1, -3, -4, 0)),
            ("crank", "admission", (1, -3, -4, 3)), ("crank", "cutoff", (1, 3, 4, -3)),
            ("crank", "release", (1, 3, 4, 0)), ("head", "compression", (1, 3, 4, 0)),
        ))

    def test_several_at_one_place(self):
        told = events((1, (0, 1), (0, 0, 0, 0), 1))
        self.assertEqual([row[:2] for row in told], [
            ("crank", "cutoff"), ("crank", "release"), ("head", "admission"), ("head", "compression"),
            ("crank", "admission"), ("crank", "compression"), ("head", "cutoff"), ("head", "release"),
        ])
        self.assertEqual([row[2] for row in told], [(1, 0, 1, 0)] * 4 + [(1, 0, -1, 0)] * 4)

    def test_just_those_that_are_there_in_the_turn_order(self):
        for valve in some_valves(150, 37):
            told = events(valve)
            self.assertIsInstance(told, tuple)
            due = {(end, event): due_event(valve, end, event) for end in ENDS for event in EVENTS}
            self.assertEqual({row[:2]: row[2] for row in told}, {key: due[key] for key in due if due[key] is not None})
            self.assertEqual(len(told), len([angle for angle in due.values() if angle is not None]))
            for first, second in zip(told, told[1:]):
                is_one = is_same_place(first[2], second[2])
                self.assertTrue(is_before(first[2], second[2]) or (is_one and first[:2] < second[:2]), valve)

    def test_one_event(self):
        for valve in some_valves(100, 41):
            for end in ENDS:
                for event in EVENTS:
                    self.assertEqual(event_angle(valve, end, event), due_event(valve, end, event), (valve, end, event))
        self.assertEqual(event_angle(SLIDE, "crank", "cutoff"), (1, 3, 4, -3))
        self.assertEqual(event_angle((2, (4, 2), (6, 5, 8, 0), 3), "head", "release"), None)
        self.assertEqual(event_angle((2, (4, 2), (4, 2, 8, 0), 3), "head", "release"), (2, -2, -1, 1))
        self.assertEqual(event_angle((2, (4, 2), (4, 2, 8, 6), 3), "crank", "release"), None)

    def test_crossed_touched_out_of_reach(self):
        for lap, is_there in ((4, True), (-4, True), (0, True), (5, False), (-5, False), (6, False), (-6, False)):
            for index, end, pair in (
                (0, "head", EVENTS[:2]), (1, "head", EVENTS[2:]), (2, "crank", EVENTS[:2]), (3, "crank", EVENTS[2:]),
            ):
                laps = tuple(lap if at == index else 7 for at in range(4))
                for event in EVENTS:
                    due = is_there and event in pair
                    self.assertIs(event_angle((1, (3, 4), laps, 1), end, event) is not None, due)
                self.assertEqual(len(events((1, (3, 4), laps, 1))), 2 if is_there else 0)

    def test_where_the_states_begin_and_cease(self):
        for valve in some_valves(60, 43):
            for end in ENDS:
                for event, state, begins in (
                    ("admission", "steam", True), ("cutoff", "steam", False),
                    ("release", "exhaust", True), ("compression", "exhaust", False),
                ):
                    angle = event_angle(valve, end, event)
                    if angle is not None:
                        self.check_change(valve, end, angle, state, begins)

    def check_change(self, valve, end, angle, state, begins):
        u = oracle.arrow(angle)
        step = oracle.Decimal(10) ** -9
        for way in (1, -1):
            place = (u[0] - way * step * u[1], u[1] + way * step * u[0])
            self.assertEqual(oracle.state(valve, end, place) in (state, "both"), begins == (way == 1))

    def test_without_an_eccentric(self):
        self.assertEqual(events((1, (0, 0), (0, -1, 1, 2), 1)), ())
        for end in ENDS:
            for event in EVENTS:
                self.assertIsNone(event_angle((1, (0, 0), (0, -1, 1, 2), 1), end, event))


class Leads(unittest.TestCase):
    def test_told(self):
        self.assertEqual(leads(SLIDE), (0, 0))
        self.assertEqual(leads((2, (3, 9), (1, 7, -4, 8), 2)), (2, 7))
        self.assertEqual(leads((2, (-3, 9), (1, 7, 4, 8), 2)), (-4, -7))
        self.assertEqual(leads((1, (GREAT, 0), (-GREAT, 0, 1, 0), 2)), (2 * GREAT, GREAT - 1))

    def test_how_far_the_ports_stand_open_at_the_own_dead_centres(self):
        for valve in some_valves(30, 47):
            head = oracle.along(valve[0], (1, 0), valve[1]) - valve[2][0]
            crank = -oracle.along(valve[0], (-1, 0), valve[1]) - valve[2][2]
            self.assertEqual(leads(valve), (head, crank))


class Blows(unittest.TestCase):
    def test_just_if_a_state_is_both(self):
        for valve in some_valves(200, 53) + [(1, (0, 0), (-1, -1, 0, -2), 1), (1, (0, 0), (0, -1, -3, -2), 1)]:
            for end in ENDS:
                region = state_region(valve, end, "both")
                self.assertIs(blows(valve, end), not is_never(region), (valve, end))
                states = [oracle.state(valve, end, oracle.arrow(at)) for at in cells(valve[0], cuts(region))]
                self.assertIs(blows(valve, end), "both" in states, (valve, end))

    def test_just_and_just_not(self):
        for steam, exhaust, due in (
            (-1, -1, True), (-1, 0, True), (0, -1, True), (0, 0, False), (-1, 1, False), (1, -1, False), (1, -2, True),
            (-2, 1, True), (-2, 2, False), (4, -5, True), (4, -6, True), (5, -6, False), (-6, 5, False), (-6, 4, True),
            (-5, 4, True), (4, -4, False), (-9, -9, True), (6, -9, False), (-9, 6, False),
        ):
            self.assertIs(blows((1, (3, 4), (steam, exhaust, 9, 9), 1), "head"), due, (steam, exhaust))
            self.assertIs(blows((1, (3, 4), (9, 9, steam, exhaust), 1), "crank"), due, (steam, exhaust))
            self.assertIs(blows((1, (3, 4), (steam, exhaust, 9, 9), 1), "crank"), False)
            self.assertIs(blows((1, (3, 4), (9, 9, steam, exhaust), 1), "head"), False)

    def test_without_an_eccentric(self):
        self.assertIs(blows((1, (0, 0), (-1, -1, -1, 0), 1), "head"), True)
        self.assertIs(blows((1, (0, 0), (-1, -1, -1, 0), 1), "crank"), False)
        self.assertIs(blows((1, (0, 0), (0, -1, -1, -1), 1), "head"), False)
        self.assertIs(blows((1, (0, 0), (0, -1, -1, -1), 1), "crank"), True)


class MovedValves(unittest.TestCase):
    def test_in_numbers(self):
        valve = (2, (3, -4), (1, 2, 5, 7), 6)
        self.assertEqual(reversed_valve(valve), (2, (3, 4), (1, 2, 5, 7), 6))
        self.assertEqual(exchanged_valve(valve), (2, (3, -4), (5, 7, 1, 2), 6))
        self.assertEqual(turned_valve(valve, (1, 0)), valve)
        self.assertEqual(turned_valve(valve, (0, 1)), (2, (-3, 4), (1, 2, 5, 7), 6))
        self.assertEqual(turned_valve(SLIDE, (1, 1)), (1, (-4, 3), (3, 0, 3, 0), 2))
        self.assertEqual(turned_valve(SLIDE, (2, 1)), (1, (-7, 24), (15, 0, 15, 0), 10))
        self.assertEqual(turned_valve((3, (1, 0), (1, 0, 0, 0), 1), (1, 1)), (3, (-1, 1), (2, 0, 0, 0), 2))
        self.assertEqual(turned_valve((3, (0, 0), (1, 0, 0, 0), 2), (1, 1)), (3, (0, 0), (1, 0, 0, 0), 2))

    def test_turned_is_reduced(self):
        for valve in some_valves(30, 59):
            for turn in TURNS:
                form, vector, laps, port = valve
                factor = turn[0] ** 2 + form * turn[1] ** 2
                numbers = turned(form, vector, turn) + tuple(lap * factor for lap in laps) + (port * factor,)
                least = gcd(*numbers)
                numbers = tuple(number // least for number in numbers)
                self.assertEqual(turned_valve(valve, turn), (form, numbers[:2], numbers[2:6], numbers[6]))
                self.assertTrue(is_valve(turned_valve(valve, turn)))

    def test_by_what_they_do(self):
        for valve in some_valves(25, 61):
            back, exchanged = reversed_valve(valve), exchanged_valve(valve)
            self.assertTrue(is_valve(back) and is_valve(exchanged))
            for angle in event_angles(valve) + angles_up_to(valve[0], 1)[::2]:
                head, crank = [state_at(valve, end, angle) for end in ENDS]
                self.assertEqual(state_at(back, "head", mirrored_angle(angle)), head)
                self.assertEqual(state_at(back, "crank", mirrored_angle(angle)), crank)
                self.assertEqual(state_at(exchanged, "crank", opposite_angle(angle)), head)
                self.assertEqual(state_at(exchanged, "head", opposite_angle(angle)), crank)
                for turn in TURNS[:5]:
                    moved, there = turned_valve(valve, turn), turned_angle(angle, turn)
                    self.assertEqual([state_at(moved, end, there) for end in ENDS], [head, crank])

    def test_great_numbers(self):
        valve = (3, (GREAT, 1), (GREAT - 1, 0, 0, 0), GREAT)
        moved = turned_valve(valve, (GREAT, 1))
        self.assertEqual(turned_valve(moved, (GREAT, -1)), valve)
        self.assertTrue(is_angle(event_angle(moved, "head", "cutoff")))


class ByName(unittest.TestCase):
    def test_valves(self):
        self.assertTrue(is_valve(value=SLIDE))
        self.assertEqual(valve_of(port=4, laps=(6, 0, 6, 0), vector=(6, 8), form=1), SLIDE)
        self.assertEqual(state_at(angle=TOP, end="head", valve=SLIDE), "steam")
        self.assertEqual(state_region(state="both", end="head", valve=SLIDE), state_region(SLIDE, "head", "both"))
        self.assertEqual(events(valve=SLIDE), events(SLIDE))
        self.assertEqual(event_angle(event="cutoff", end="head", valve=SLIDE), (1, -3, -4, -3))
        self.assertEqual(leads(valve=SLIDE), (0, 0))
        self.assertFalse(blows(end="head", valve=SLIDE))
        self.assertEqual(reversed_valve(valve=SLIDE), (1, (3, -4), (3, 0, 3, 0), 2))
        self.assertEqual(exchanged_valve(valve=SLIDE), SLIDE)
        self.assertEqual(turned_valve(turn=(1, 1), valve=SLIDE), (1, (-4, 3), (3, 0, 3, 0), 2))


if __name__ == "__main__":
    unittest.main()
