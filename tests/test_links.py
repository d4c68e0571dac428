import unittest
from fractions import Fraction
from math import gcd

from steamlinks.links import eccentric_of, has_one_lead, is_link, lead_at, valve_at
from steamlinks.valves import is_valve, leads
from tests.samples import GREAT, NOTCHES, some_links

LINK = (1, (0, 4), (3, 0), (0, 0), (1, 0, 1, 0), 1)
BENT = (2, (1, -2), (3, 0), (-1, 5), (2, -1, 3, 4), 6)
HUGE = (3, (GREAT, 1), (-GREAT, GREAT), (1, -GREAT), (GREAT, 0, -GREAT, 1), GREAT)


class IsLink(unittest.TestCase):
    def test_what_is_one(self):
        for link in (LINK, BENT, HUGE, (3, (0, 0), (0, 0), (0, 0), (0, 0, 0, 0), 1), (1, (2, 2), (2, 2), (2, 2), (2, 2, 2, 2), 3)):
            self.assertIs(is_link(link), True)
            self.assertIs(is_link(value=link), True)

    def test_what_is_none(self):
        for link in (
            LINK[:5], LINK + (1,), list(LINK), (0,) + LINK[1:], (4,) + LINK[1:], (True,) + LINK[1:], LINK[:5] + (0,), LINK[:5] + (-1,),
            LINK[:5] + (True,), (1, (0, 4, 0), (3, 0), (0, 0), (1, 0, 1, 0), 1), (1, (0, 4), [3, 0], (0, 0), (1, 0, 1, 0), 1),
            (1, (0, 4), (3, 0), (0, False), (1, 0, 1, 0), 1), (1, (0, 4), (3, 0), (0, 0), (1, 0, 1), 1), (1, (0, 8), (6, 0), (0, 0), (2, 0, 2, 0), 2),
            (1, (0, 4), (3, 0), (0, 0), [1, 0, 1, 0], 1), (1, (0, 0), (0, 0), (0, 0), (0, 0, 0, 0), 2), (1, (3, 4), (3, 0, 3, 0), 2), None, 1,
        ):
            self.assertIs(is_link(link), False, link)


class ValveAt(unittest.TestCase):
    def test_at_notches(self):
        for link, notch, due in (
            (LINK, (0, 1), (1, (0, 4), (1, 0, 1, 0), 1)), (LINK, (1, 1), (1, (3, 4), (1, 0, 1, 0), 1)),
            (LINK, (-1, 1), (1, (-3, 4), (1, 0, 1, 0), 1)), (LINK, (1, 3), (1, (1, 4), (1, 0, 1, 0), 1)),
            (LINK, (1, 2), (1, (3, 8), (2, 0, 2, 0), 2)), (BENT, (1, 1), (2, (3, 3), (2, -1, 3, 4), 6)),
            (BENT, (-1, 2), (2, (-3, -3), (8, -4, 12, 16), 24)), ((1, (1, 1), (-2, -2), (0, 0), (1, 0, 0, 0), 1), (1, 2), (1, (0, 0), (1, 0, 0, 0), 1)),
            ((1, (0, 0), (0, 0), (0, 0), (3, 0, 0, 3), 1), (2, 5), (1, (0, 0), (3, 0, 0, 3), 1)),
            ((1, (0, 0), (2, 0), (0, 0), (2, 2, 4, 0), 1), (0, 1), (1, (0, 0), (2, 2, 4, 0), 1)),
            ((1, (0, 0), (1, 0), (0, 0), (2, 2, 4, 0), 2), (0, 1), (1, (0, 0), (1, 1, 2, 0), 1)),
        ):
            self.assertEqual(valve_at(link, notch), due)
            self.assertEqual(valve_at(link=link, notch=notch), due)

    def test_reduced_and_in_proportion(self):
        for link in some_links(60, 21) + [HUGE]:
            form, first, second, third, laps, port = link
            for notch in NOTCHES + ((GREAT - 1, GREAT), (-1, GREAT)):
                t = Fraction(*notch)
                due = [first[i] + t * second[i] + t * t * third[i] for i in (0, 1)] + list(laps) + [port]
                valve = valve_at(link, notch)
                self.assertTrue(is_valve(valve))
                self.assertEqual(valve[0], form)
                numbers = valve[1] + valve[2] + (valve[3],)
                self.assertEqual(gcd(*numbers), 1)
                self.assertEqual([number * port for number in numbers], [number * valve[3] for number in due])


class EccentricOf(unittest.TestCase):
    def test_polynomials(self):
        for link, due in (
            (LINK, ((0, 3), (4,))), (BENT, ((1, 3, -1), (-2, 0, 5))), ((1, (0, 0), (1, 0), (0, 0), (1, 0, 1, 0), 1), ((0, 1), ())),
            ((1, (0, 0), (0, 0), (0, 0), (1, 0, 1, 0), 1), ((), ())), ((1, (0, 0), (0, 0), (0, -2), (1, 0, 1, 0), 1), ((), (0, 0, -2))),
        ):
            self.assertEqual(eccentric_of(link), due)
            self.assertEqual(eccentric_of(link=link), due)


class Leads(unittest.TestCase):
    def test_at_notches(self):
        for link, end, notch, due in (
            (LINK, "head", (1, 2), (1, 2)), (LINK, "head", (1, 3), (0, 1)), (LINK, "crank", (-1, 1), (-4, 1)), (BENT, "head", (1, 2), (1, 4)),
            (BENT, "crank", (1, 2), (-3, 4)), (BENT, "head", (0, 1), (-1, 1)), (HUGE, "crank", (1, 1), (GREAT + 1, 1)),
            ((1, (2, 0), (0, 0), (0, 0), (2, 0, 3, 1), 1), "head", (2, 3), (0, 1)),
        ):
            self.assertEqual(lead_at(link, end, notch), due, (link, end, notch))
            self.assertEqual(lead_at(link=link, end=end, notch=notch), due)

    def test_as_those_of_the_valves(self):
        for link in some_links(60, 22):
            for notch in NOTCHES:
                valve = valve_at(link, notch)
                for end, lead in zip(("head", "crank"), leads(valve)):
                    # The valve tells all in parts of its own: its port is that of the link.
                    due = Fraction(lead * link[5], valve[3])
                    self.assertEqual(lead_at(link, end, notch), (due.numerator, due.denominator))

    def test_one_lead(self):
        for link, due in (
            (LINK, False), ((1, (4, 0), (0, 3), (0, -1), (1, 0, 2, 0), 1), True), ((1, (4, 0), (0, 3), (1, 0), (1, 0, 2, 0), 1), False),
            ((1, (4, 0), (1, 3), (-1, 0), (1, 0, 2, 0), 1), False), ((1, (0, 0), (0, 0), (0, 0), (0, 0, 0, 0), 1), True),
            ((1, (1, 0), (0, 0), (0, 0), (1, 0, 1, 0), 1), True), ((1, (1, 0), (0, 5), (0, 5), (1, 0, 1, 0), 1), True),
        ):
            for end in ("head", "crank"):
                self.assertIs(has_one_lead(link, end), due)
                self.assertIs(has_one_lead(link=link, end=end), due)

    def test_one_lead_at_all_notches(self):
        for link in some_links(80, 23, most=1):
            for end in ("head", "crank"):
                found = {lead_at(link, end, notch) for notch in NOTCHES}
                self.assertIs(has_one_lead(link, end), len(found) == 1)


if __name__ == "__main__":
    unittest.main()
