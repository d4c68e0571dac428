"""What one part of the program tells beside what the others tell, for inputs where several edges come together."""

import unittest
from itertools import combinations
from random import Random

from steamlinks.alike import alike_notches, are_alike, are_alike_at, parting_notch, unlike_angle
from steamlinks.angles import way_angle
from steamlinks.certificates import (
    certify_alike, certify_always, certify_blow, certify_links, certify_looks, certify_region, certify_run, certify_start, certify_state, certify_within,
    certify_zone,
)
from steamlinks.checker import accepts
from steamlinks.consoles import Console
from steamlinks.engines import dead_angle, marks_of, pull_sign, starting_arcs, starts_everywhere, states_at
from steamlinks.errors import Broken
from steamlinks.fits import fits
from steamlinks.knots import ratio_between
from steamlinks.links import lead_at, valve_at
from steamlinks.looks import any_fewest_looks, blind_pairs, is_parting, left_by, seen, wrong_valve
from steamlinks.notches import are_same_lots, blow_notches, event_notches, lead_notches, lot_both, lot_either, lot_holds, lot_rest, state_notches
from steamlinks.places import as_way, is_same_place, mirrored_angle, opposite_angle, turned_angle
from steamlinks.ports import compare_greatest, compare_opening
from steamlinks.regions import arcs, cuts, holds, is_always, is_never, is_same_region, lies_within, opposite_region, parting_angle, turned_region
from steamlinks.riders import open_region, plate_kind, plate_kinds
from steamlinks.settings import crossed, evened, moved, opposite, turned_link
from steamlinks.valves import (
    ENDS, EVENTS, STATES, blows, event_angle, events, exchanged_valve, leads, reversed_valve, state_at, state_region, turned_valve, valve_of,
)
from steamlinks.workshops import Workshop
from steamlinks.zones import critical_notches, engine_at, starting_zones, starts_at
from tests.samples import NOTCHES, TURNS, some_links, some_valves
from tests.test_engines import some_engines
from tests.test_zones import some_geared, starting_geared

FULL = (((-1, 1), True, (1, 1), True),)
# Levels that fall together, touches, levels out of reach, no eccentric, all laps 0.
EDGES = tuple(valve_of(form, vector, laps, port) for form, vector, laps, port in (
    (1, (3, 4), (5, 5, 5, 5), 1), (1, (3, 4), (-5, -5, -5, -5), 1), (1, (3, 4), (5, -5, -5, 5), 2), (1, (3, 4), (-5, 5, 5, -5), 1), (1, (3, 4), (0, 0, 0, 0), 1),
    (1, (3, 4), (3, -3, 3, -3), 5), (1, (3, 4), (3, -3, -3, 3), 1), (1, (3, 4), (4, -4, 4, -4), 1), (2, (3, 0), (3, -3, -3, 3), 1), (3, (1, 1), (2, -2, 2, -2), 1),
    (3, (1, 1), (-2, 2, -2, 2), 1), (1, (0, 0), (0, 0, 0, 0), 1), (1, (0, 0), (-1, -1, 1, 0), 1), (2, (0, 1), (1, -1, 1, -1), 1), (1, (5, 0), (5, 4, -5, 4), 3),
    (1, (3, 4), (6, -6, 6, -6), 1), (1, (3, 4), (-6, 6, -6, 6), 1), (1, (-3, -4), (3, 3, -3, -3), 1),
))
VALVES = list(EDGES) + some_valves(25, 141)
LINKS = (
    # The eccentric is (0, 0) at one notch, or touches a level there; all levels in one; nothing changes; two vectors in one line.
    (1, (0, 0), (1, 1), (0, 0), (0, 0, 0, 0), 1), (1, (0, 0), (0, 0), (1, 0), (1, -1, 1, -1), 1), (1, (3, 4), (0, 0), (0, 0), (5, -5, 5, -5), 1),
    (1, (1, 0), (0, 0), (-1, 0), (1, -1, -1, 1), 1), (2, (0, 1), (1, 0), (0, 1), (1, 1, 1, 1), 1), (1, (-1, 0), (0, 0), (4, 0), (0, 0, 0, 0), 1),
    (3, (1, 1), (-2, -2), (1, 1), (0, 0, 0, 0), 1), (1, (1, -1), (1, 1), (0, 0), (-1, 1, -1, 1), 1), (1, (0, 0), (3, 4), (0, 0), (-5, 5, 5, -5), 1),
) + tuple(some_links(12, 142, 3))


def angles_round(valve):
    """All places at which the states may change, those half a turn on, and places between."""
    form = valve[0]
    found = [way_angle(form, way) for way in ((1, 0), (0, 1), (-1, 0), (0, -1), (3, 4), (-7, 2))]
    for end, state in (("head", "both"), ("crank", "both")):
        for cut in cuts(state_region(valve, end, state)):
            found += [cut, opposite_angle(cut), mirrored_angle(cut), turned_angle(cut, (2, 1))]
    return found


class Turn(unittest.TestCase):
    def test_regions_of_states_and_states(self):
        for valve in VALVES:
            for end in ENDS:
                regions = {state: state_region(valve, end, state) for state in STATES}
                for angle in angles_round(valve):
                    state = state_at(valve, end, angle)
                    self.assertEqual([name for name in STATES if holds(regions[name], angle)], [state], (valve, end, angle))
                    claim, paper = certify_state(valve, end, angle)
                    self.assertEqual(claim[4], state)
                    self.assertTrue(accepts(claim, paper))
                self.assertTrue(is_always((valve[0], ("or", tuple(region[1] for region in regions.values())))))
                for first, second in combinations(regions.values(), 2):
                    self.assertTrue(is_never((valve[0], ("and", (first[1], second[1])))))
                    self.assertTrue(lies_within(first, (valve[0], ("not", second[1]))))
                self.assertIs(blows(valve, end), not is_never(regions["both"]))
                claim, paper = certify_blow(valve, end)
                self.assertEqual(claim[0], "blows" if blows(valve, end) else "tight")
                self.assertTrue(accepts(claim, paper))

    def test_events_and_arcs(self):
        for valve in VALVES:
            told = events(valve)
            for end in ENDS:
                steam = (valve[0], ("or", tuple(state_region(valve, end, state)[1] for state in ("steam", "both"))))
                found = arcs(steam)
                admission, cutoff = (event_angle(valve, end, event) for event in ("admission", "cutoff"))
                self.assertIs(admission is None, cutoff is None)
                self.assertEqual([(end, event) for event in EVENTS if event_angle(valve, end, event) is not None],
                                 sorted([(name, event) for name, event, _ in told if name == end]))
                if admission is not None:
                    (arc,) = found
                    self.assertTrue(is_same_place(arc[0], admission) and is_same_place(arc[2], cutoff))
                    self.assertEqual(arc[1::2], (False, False))
                    self.assertEqual(compare_opening(valve, end, admission, (0, 1)), 0)
                self.assertIs(compare_greatest(valve, end, (0, 1)) > 0, found != ())

    def test_turned_mirrored_exchanged_and_opposite(self):
        for valve in VALVES:
            for end, far in (("head", "crank"), ("crank", "head")):
                for state in STATES:
                    region = state_region(valve, end, state)
                    self.assertTrue(is_same_region(state_region(opposite(valve), end, state), opposite_region(region)))
                    self.assertTrue(is_same_region(state_region(exchanged_valve(valve), far, state), opposite_region(region)))
                    for turn in TURNS[:4]:
                        self.assertTrue(is_same_region(state_region(turned_valve(valve, turn), end, state), turned_region(region, turn)))
                for angle in angles_round(valve)[::3]:
                    self.assertEqual(state_at(reversed_valve(valve), end, mirrored_angle(angle)), state_at(valve, end, angle))

    def test_alike_and_regions(self):
        for valve, other in combinations(VALVES[:20], 2):
            if valve[0] == other[0]:
                parted = [
                    parting_angle(state_region(valve, end, state), state_region(other, end, state)) for end in ENDS for state in STATES
                ]
                self.assertIs(are_alike(valve, other), parted == [None] * 8, (valve, other))
                claim, paper = certify_alike(valve, other)
                self.assertEqual((claim[0], paper), ("alike", ()) if parted == [None] * 8 else ("unlike", unlike_angle(valve, other)))
                self.assertTrue(accepts(claim, paper))
                for end in ENDS:
                    claim, paper = certify_within(state_region(valve, end, "steam"), state_region(other, end, "steam"))
                    self.assertTrue(accepts(claim, paper))
                    self.assertIs(claim[0] == "within", lies_within(claim[1], claim[2]))

    def test_riders_and_regions(self):
        for valve in VALVES[:20]:
            for rider in ((0, 0), valve[1], (3, -4), (-6, -8)):
                for end in ENDS:
                    kinds = plate_kinds(valve, rider, end)
                    for ratio in ((-30, 1), (0, 1), (5, 1), (-5, 2), (30, 1)):
                        region = open_region(valve, rider, end, ratio)
                        kind = plate_kind(valve, rider, end, ratio)
                        self.assertIs(kind == "shut", is_never(region))
                        self.assertEqual({"shut": 0, "twice": 2}.get(kind, 1), len(arcs(region)), (valve, rider, end, ratio))
                        claim, paper = certify_region(region)
                        self.assertTrue(accepts(claim, paper) and (claim[0] == "never") is (kind == "shut"))
                    self.assertEqual(kinds[0], "shut")


class Notches(unittest.TestCase):
    def test_lots_and_valves(self):
        for link in LINKS:
            for end in ENDS:
                lots = {event: event_notches(link, end, event) for event in EVENTS}
                blow, lead = blow_notches(link, end), lead_notches(link, end, (1, 3))
                for notch in NOTCHES:
                    valve = valve_at(link, notch)
                    for event in EVENTS:
                        self.assertIs(lot_holds(lots[event], notch), event_angle(valve, end, event) is not None, (link, end, event, notch))
                    self.assertIs(lot_holds(blow, notch), blows(valve, end))
                    n, m = lead_at(link, end, notch)
                    self.assertIs(lot_holds(lead, notch), 3 * n > m)
                    self.assertEqual(leads(valve)[ENDS.index(end)] * m * link[5], n * valve[3])

    def test_lots_of_states(self):
        for link in LINKS:
            for way in ((1, 0), (-1, 1), (3, 4)):
                angle = way_angle(link[0], way)
                for end in ENDS:
                    lots = [state_notches(link, angle, end, state) for state in STATES]
                    together = ()
                    for index, lot in enumerate(lots):
                        self.assertEqual(lot_both(lot, together), ())
                        together = lot_either(together, lot)
                        claim, paper = certify_always(link, angle, end, STATES[index])
                        self.assertTrue(accepts(claim, paper))
                        self.assertIs(claim[0] == "always", lot == FULL)
                        if claim[0] != "always":
                            self.assertTrue(lot_holds(lot_rest(lot), paper))
                    self.assertEqual(together, FULL)
                    for notch in NOTCHES:
                        state = state_at(valve_at(link, notch), end, angle)
                        self.assertEqual([name for name, lot in zip(STATES, lots) if lot_holds(lot, notch)], [state])

    def test_alike_links(self):
        for link in LINKS[:9]:
            for other in LINKS[:9] + (crossed(link), turned_link(link, (0, 1))):
                if other[0] == link[0]:
                    lot = alike_notches(link, other)
                    self.assertIs(lot == FULL, parting_notch(link, other) is None)
                    claim, paper = certify_links(link, other)
                    self.assertTrue(accepts(claim, paper))
                    self.assertIs(claim[0] == "alike links", lot == FULL)
                    for notch in NOTCHES:
                        due = are_alike(valve_at(link, notch), valve_at(other, notch))
                        self.assertIs(lot_holds(lot, notch), due, (link, other, notch))
                        self.assertIs(are_alike_at(link, other, notch), due)

    def test_crossed_links_have_the_mirrored_lots(self):
        for link in LINKS:
            for end in ENDS:
                lot, other = event_notches(link, end, "cutoff"), event_notches(crossed(link), end, "cutoff")
                for n, m in NOTCHES:
                    self.assertIs(lot_holds(lot, (n, m)), lot_holds(other, (-n, m)))
                self.assertTrue(are_same_lots(event_notches(crossed(crossed(link)), end, "cutoff"), lot))

    def test_sightings_and_events(self):
        met = 0
        for link in LINKS:
            for notch in NOTCHES[::2]:
                valve = valve_at(link, notch)
                for end in ENDS:
                    for event in EVENTS:
                        angle = event_angle(valve, end, event)
                        for turn in TURNS:
                            place = turned_angle(way_angle(link[0], (1, 0)), turn)
                            due = angle is not None and is_same_place(angle, place)
                            self.assertIs(fits(link, ((notch, end, event, turn),)), due, (link, notch, end, event, turn))
                            met += due
        self.assertGreater(met, 40)


class Engines(unittest.TestCase):
    def test_starting_beside_the_pull(self):
        for engine in some_engines(15, 143):
            for sense in (1, -1):
                claim, paper = certify_start(engine, sense)
                self.assertTrue(accepts(claim, paper))
                self.assertIs(claim[0] == "starts", starts_everywhere(engine, sense))
                self.assertIs(starting_arcs(engine, sense) == ((None, True, None, True),), starts_everywhere(engine, sense))
                for mark in marks_of(engine):
                    if claim[0] == "starts":
                        self.assertEqual(pull_sign(engine, mark), sense)
                    for cylinder, states in zip(engine[1], states_at(engine, mark)):
                        own = turned_angle(mark, cylinder[0])
                        self.assertEqual(states, tuple(state_at(cylinder[2], end, own) for end in ENDS))

    def test_zones_beside_engines(self):
        for geared in some_geared(3, 144) + starting_geared(5, 145):
            ends = ((-1, 1),) + critical_notches(geared) + ((1, 1),)
            for sense in (1, -1):
                zones = starting_zones(geared, sense)
                for low, high in zip(ends, ends[1:]):
                    second = ratio_between(low, high)
                    first = ratio_between(low, second)
                    claim, paper = certify_zone(geared, sense, first, second)
                    self.assertEqual(claim[0], "zone" if (low, high) in zones else "no zone")
                    self.assertTrue(accepts(claim, paper))
                    claim, paper = certify_run(geared, sense, first)
                    self.assertEqual(claim[0], "runs" if starts_everywhere(engine_at(geared, first), sense) else "stalls")
                    self.assertTrue(accepts(claim, paper))
                    self.assertIs(starts_at(geared, sense, first), dead_angle(engine_at(geared, first), sense) is None)


class Settings(unittest.TestCase):
    def test_looks_beside_alike_valves(self):
        chance = Random(146)
        wrongs = (("right",), ("moved", (1, 1)), ("moved", (-5, 1)), ("opposite",), ("thrown", (2, 1)), ("slipped", (0, 1)))
        for valve in VALVES[:24]:
            told = tuple(chance.sample(wrongs, 4)) + (("moved", (0, 1)),)
            valves = [wrong_valve(valve, wrong) for wrong in told]
            looks = any_fewest_looks(valve, told)
            blind = blind_pairs(valve, told)
            for index, other in combinations(range(5), 2):
                parted = any([is_parting(valves[index], valves[other], look) for look in looks])
                self.assertIs(parted, (index, other) not in blind, (valve, told))
                self.assertIs(parted, not are_alike(valves[index], valves[other]))
            for index, one in enumerate(valves):
                left = left_by(valve, told, tuple((look, seen(one, look)) for look in looks))
                due = tuple(told[other] for other in range(5) if other == index or tuple(sorted((index, other))) in blind)
                self.assertEqual(left, due)
            claim, paper = certify_looks(valve, told)
            self.assertTrue(accepts(claim, paper) and claim[3] == len(looks))

    def test_evened_valves_in_a_workshop(self):
        for valve in VALVES:
            shop = Workshop()
            shop.put("a", valve)
            shop.put("b", evened(valve))
            console = Console(shop)
            first, second = console.say("leads b").split(" ")
            self.assertEqual(first, second)
            for way in ("1 0", "0 -1", "3 4"):
                states = console.say("state b: " + way).split(" ")
                c, s = (int(word) for word in way.split(" "))
                angle = way_angle(valve[0], (c, s))
                for end, state in zip(ENDS, states):
                    shop.wish(("state", "b", angle, end, state))
                    self.assertEqual(state_at(evened(valve), end, angle), state)
            if are_alike(valve, evened(valve)):
                shop.wish(("alike", "b", "a"))
            else:
                with self.assertRaises(Broken):
                    shop.wish(("alike", "b", "a"))
            self.assertEqual(moved(valve, (0, 1)), valve)

    def test_ways_of_exact_events_lead_back(self):
        for valve in VALVES:
            for end, event, angle in events(valve):
                way = as_way(angle)
                if way is not None:
                    self.assertTrue(is_same_place(way_angle(valve[0], way), angle))
                    self.assertEqual(event_angle(valve, end, event), angle)


if __name__ == "__main__":
    unittest.main()
