"""The checker: it accepts what the certificates tell, and nothing that is not so."""

import unittest
from math import gcd
from random import Random

from steamlinks import certificates
from steamlinks.certificates import (
    certify_alike, certify_always, certify_blind, certify_blow, certify_fit, certify_fitting, certify_following, certify_greatest, certify_kinds,
    certify_links, certify_looks, certify_notches, certify_place, certify_pull, certify_region, certify_roots, certify_run, certify_share,
    certify_start, certify_state, certify_within, certify_zone,
)
from steamlinks.checker import accepts
from steamlinks.errors import InvalidNotch, InvalidPolynomial, InvalidShare, InvalidSightings, NoAngle, NoFit, Nought
from steamlinks.looks import any_fewest_looks
from tests.arguments import BAD, FRONT, LINK, SLIDE, STRANGE, Grumpy, nested
from tests.claims import MAKERS, OTHER_WORD, WITH_PAPER, is_right, some_claims
from tests.samples import GREAT
from tests.test_zones import MIDDLE, PAIR

TOP, BACK = (1, -1, 0, 0), (1, 0, -1, 0)
SIDE, ABOVE = ("side", (3, 4), 3), ("side", (0, 1), 0)
CLAIMS = some_claims(12, 131)
WORDS = ("right", "head", "crank", "steam", "closed", "both", "cutoff", "whole", "shut")


def changes_of(value, chance):
    """The value with one part changed: other numbers, other words, parts left out, doubled, of another kind."""
    found = [None, (), 0, True, "x", [], (value,)]
    if isinstance(value, bool):
        return [not value, int(value), None]
    if isinstance(value, int):
        return [value + 1, value - 1, -value, 0, 1, value * 2, None, (value,), str(value), value == 1]
    if isinstance(value, str):
        return [value.upper(), value + " ", "", None, chance.choice(WORDS), OTHER_WORD.get(value, "none"), (value,)]
    if isinstance(value, tuple):
        found += [value + (value[-1],) if value else (1,), value[:-1], value[1:], value[::-1], list(value), value + ((),)]
        for index in range(len(value)):
            for part in changes_of(value[index], chance) if len(value) < 4 else chance.sample(changes_of(value[index], chance), 3):
                found.append(value[:index] + (part,) + value[index + 1:])
    return found


def is_empty(value):
    return isinstance(value, tuple) and len(value) == 0


class Claims(unittest.TestCase):
    def check(self, claim, paper, due):
        self.assertIs(accepts(claim, paper), due, (claim, paper))
        self.assertIs(accepts(claim=claim, paper=paper), due)

    def test_all_that_certificates_make(self):
        met = set()
        for claim, paper in CLAIMS:
            self.check(claim, paper, True)
            self.assertTrue(is_right(claim, paper), (claim, paper))
            met.add(claim[0])
        self.assertEqual(met, set(MAKERS))

    def test_the_excluded_claim(self):
        papers = {}
        for claim, paper in CLAIMS:
            if claim[0] in OTHER_WORD:
                papers.setdefault(claim[0], []).append(paper)
        chance = Random(132)
        for claim, paper in CLAIMS:
            if claim[0] in OTHER_WORD:
                other = (OTHER_WORD[claim[0]],) + claim[1:]
                for found in [paper, ()] + chance.choices(papers.get(other[0], [()]), k=6):
                    self.check(other, found, False)

    def test_other_papers(self):
        chance = Random(133)
        accepted = 0
        for claim, paper in CLAIMS:
            for found in [(), paper] + chance.sample(changes_of(paper, chance), 5) + [other for _, other in chance.sample(CLAIMS, 5)]:
                due = is_right(claim, found)
                accepted += due and found != paper
                self.check(claim, found, due)
            if claim[0] not in WITH_PAPER:
                for found in (None, [], "", 0, False, {}, ((),), FRONT, b""):
                    self.check(claim, found, False)
        self.assertGreater(accepted, 20)

    def test_other_claims(self):
        chance = Random(134)
        accepted = 0
        for claim, paper in CLAIMS:
            for found in chance.sample(changes_of(claim, chance), 6):
                due = is_right(found, paper)
                accepted += due
                self.check(found, paper, due)
        self.assertGreater(accepted, 20)

    def test_anything_at_all(self):
        for value in STRANGE + tuple((word,) for word in MAKERS) + tuple(MAKERS) + tuple([word] for word in MAKERS):
            for other in (value, (), None, FRONT):
                self.check(value, other, False)
                self.check((value,), other, False)
                self.check((value, value, value), other, False)
        for claim, paper in CLAIMS[::9]:
            for value in STRANGE:
                if not is_empty(value):
                    self.check(claim, value, False)
                self.check(value, paper, False)
                self.check((value,) + claim[1:], paper, False)
                self.check(claim + (value,), paper, False)
                self.check(list(claim), paper, False)

    def test_strange_values_for_each_part(self):
        seen = {}
        for claim, paper in CLAIMS:
            seen.setdefault(claim[0], (claim, paper))
        self.assertEqual(set(seen), set(MAKERS))
        for claim, paper in seen.values():
            for index in range(1, len(claim)):
                for value in STRANGE + (nested(claim[index], 7), Grumpy()):
                    # No value but an endless rod and a lot without stretches is of the kind of any part.
                    if value is not None and not is_empty(value):
                        self.check(claim[:index] + (value,) + claim[index + 1:], paper, False)
            if isinstance(paper, tuple):
                for index in range(len(paper)):
                    for value in STRANGE:
                        self.check(claim, paper[:index] + (value,) + paper[index + 1:], False)

    def test_wrong_arguments_are_no_claims(self):
        for kind, index, claim, paper in (
            ("valve", 1, ("tight", SLIDE, "head"), ()), ("end", 2, ("tight", SLIDE, "head"), ()), ("region", 1, ("never", (1, ("side", (3, 4), 5))), ()),
            ("angle", 2, ("fails", (1, ("side", (3, 4), 5)), FRONT), ()), ("state", 4, ("state", SLIDE, "head", FRONT, "closed"), ()),
            ("link", 1, ("alike links", LINK, LINK), ()), ("link", 2, ("alike links", LINK, LINK), ()), ("sense", 2, ("runs", PAIR, 1, (1, 2)), ()),
            ("geared", 1, ("runs", PAIR, 1, (1, 2)), ()), ("notch", 3, ("runs", PAIR, 1, (1, 2)), ()), ("wrong", 2, ("blind", SLIDE, ("right",), ("right",)), ()),
            ("wrong", 3, ("blind", SLIDE, ("right",), ("right",)), ()), ("wrongs", 2, ("looks", SLIDE, (("right",),), 0), ()),
            ("rider", 2, ("kinds", SLIDE, (0, 8), "head", certify_kinds(SLIDE, (0, 8), "head")[0][4]), ()),
            ("notch", 3, ("zone", PAIR, 1, (0, 1), (1, 1)), ()), ("notch", 4, ("zone", PAIR, 1, (0, 1), (1, 1)), ()),
            ("notch", 3, ("no zone", PAIR, -1, (0, 1), (1, 1)), ()), ("lot", 5, certify_notches(LINK, FRONT, "head", "steam")[0], ()),
            ("any ratio", 3, certify_pull(*ENGINE, (-9, 1))[0], ()), ("engine", 1, certify_pull(*ENGINE, (-9, 1))[0], ()),
            ("ratio", 3, ("opens", SLIDE, "head", (1, 2), 1), ()), ("rod", 2, ("share", SLIDE, None, "head", "cutoff", (16, 25), 0), ()),
            ("share", 5, ("share", SLIDE, None, "head", "cutoff", (16, 25), 0), ()), ("event", 4, ("share", SLIDE, None, "head", "cutoff", (16, 25), 0), ()),
        ):
            self.check(claim, paper, True)
            for value, _ in BAD[kind][1]:
                self.check(claim[:index] + (value,) + claim[index + 1:], paper, False)


ENGINE = ((1, (((1, 0), 1, (1, (0, 1), (0, 0, 0, 0), 1)), ((1, 1), 1, (1, (0, 1), (0, 0, 0, 0), 1)))), 1)


class Told(unittest.TestCase):
    """What each function tells, and what is accepted beside it, by hand."""

    def check(self, told, claim, paper):
        self.assertEqual(told, (claim, paper))
        self.assertIs(accepts(claim, paper), True)

    def refuse(self, claim, *papers):
        for paper in papers:
            self.assertIs(accepts(claim, paper), False, (claim, paper))

    def test_regions(self):
        region, other = (1, SIDE), (1, ABOVE)
        self.check(certify_place(region, FRONT), ("fails", region, FRONT), ())
        self.check(certify_place(region=region, angle=TOP), ("holds", region, TOP), ())
        self.check(certify_region((1, ("side", (3, 4), 5))), ("never", (1, ("side", (3, 4), 5))), ())
        claim, paper = certify_region(region=region)
        self.assertEqual(claim, ("sometimes", region))
        for angle, due in ((TOP, True), (FRONT, False), (BACK, False), ((2, -1, 0, 0), False), ((1, -3, -4, -3), False), (way(1, (3, 4)), True)):
            self.assertIs(accepts(claim, angle), due)
        self.check(certify_within(region, other), ("within", region, other), ())
        claim, paper = certify_within(region=other, other=region)
        self.assertEqual(claim, ("not within", other, region))
        for angle, due in ((paper, True), (TOP, False), (way(1, (-7, 24)), True), (BACK, False)):
            self.assertIs(accepts(claim, angle), due)
        self.refuse(("within", region, (2, ABOVE)), ())
        self.refuse(("not within", other, (2, SIDE)), paper)

    def test_valves(self):
        self.check(certify_state(SLIDE, "head", TOP), ("state", SLIDE, "head", TOP, "steam"), ())
        self.check(certify_state(valve=SLIDE, end="crank", angle=TOP), ("state", SLIDE, "crank", TOP, "exhaust"), ())
        self.refuse(("state", SLIDE, "head", TOP, "closed"), ())
        self.check(certify_blow(SLIDE, "head"), ("tight", SLIDE, "head"), ())
        blowing = (1, (3, 4), (-1, -1, 3, 0), 2)
        claim, paper = certify_blow(valve=blowing, end="head")
        self.assertEqual(claim, ("blows", blowing, "head"))
        self.assertIs(accepts(claim, (1, -4, 3, 0)), False)
        self.assertIs(accepts(claim, way(1, (4, -3))), True)
        self.check(certify_share(SLIDE, None, "head", "cutoff", (16, 25)), ("share", SLIDE, None, "head", "cutoff", (16, 25), 0), ())
        self.check(certify_share(valve=SLIDE, rod=(5, 1), end="head", event="cutoff", share=(16, 25)), ("share", SLIDE, (5, 1), "head", "cutoff", (16, 25), 1), ())
        for sign in (1, -1, False, None, 2, (0,)):
            self.refuse(("share", SLIDE, None, "head", "cutoff", (16, 25), sign), ())
        self.check(certify_greatest(SLIDE, "head", (1, 1)), ("opens", SLIDE, "head", (1, 1), 0), ())
        self.check(certify_greatest(valve=SLIDE, end="head", ratio=(0, 1)), ("opens", SLIDE, "head", (0, 1), 1), ())
        self.refuse(("opens", SLIDE, "head", (0, 1), True), ())
        lost = (1, (3, 4), (5, 0, 3, 0), 2)
        for sign in (None, 0, 1, -1):
            self.refuse(("share", lost, None, "head", "cutoff", (1, 2), sign), ())
        with self.assertRaises(NoAngle):
            certify_share(lost, None, "head", "cutoff", (1, 2))
        with self.assertRaises(InvalidShare):
            certify_share(lost, None, "head", "cutoff", (1, 1))

    def test_alike(self):
        longer = (1, (6, 8), (6, 0, 6, 0), 1)
        self.check(certify_alike(SLIDE, longer), ("alike", SLIDE, longer), ())
        first, second = (1, (3, 4), (-5, 9, 9, 9), 1), (1, (3, 4), (-6, 9, 9, 9), 1)
        claim, paper = certify_alike(valve=first, other=second)
        self.assertEqual(claim, ("unlike", first, second))
        # They are unlike at the touch alone.
        self.assertIs(accepts(claim, paper), True)
        self.assertIs(accepts(claim, way(1, (-3, -4))), True)
        for angle in (FRONT, TOP, BACK, (1, 3, 4, -4), way(1, (3, 4)), way(1, (1 - 3 * GREAT, -4 * GREAT))):
            self.assertIs(accepts(claim, angle), False)
        twice, bent = (1, (0, 8), (6, 0), (0, 0), (2, 0, 2, 0), 1), (1, (0, 4), (3, 0), (1, 0), (1, 0, 1, 0), 1)
        self.check(certify_links(LINK, twice), ("alike links", LINK, twice), ())
        claim, (notch, angle) = certify_links(link=LINK, other=bent)
        self.assertEqual(claim, ("unlike links", LINK, bent))
        self.assertIs(accepts(claim, (notch, angle)), True)
        self.refuse(claim, ((0, 1), angle), (angle, notch), (notch,), notch, angle, (notch, angle, ()), [notch, angle], ((3, 2), angle), ())

    def test_links(self):
        self.check(certify_roots((2, -4, -1, 2)), ("roots", (2, -4, -1, 2), 3), ())
        self.check(certify_roots(polynomial=(1, 0, 1)), ("roots", (1, 0, 1), 0), ())
        self.check(certify_roots((5,)), ("roots", (5,), 0), ())
        for count in (2, 4, -3, None, "3", (3,)):
            self.refuse(("roots", (2, -4, -1, 2), count), ())
        self.refuse(("roots", (0, 1), True), ())
        for count in (0, 1, None):
            self.refuse(("roots", (), count), ())
        with self.assertRaises(Nought):
            certify_roots(())
        with self.assertRaises(InvalidPolynomial):
            certify_roots((0,))
        wide = (1, (0, 0), (1, 1), (0, 0), (1, 0, 1, 0), 1)
        lot = (((0, 1), True, (1, 3), True),)
        self.check(certify_notches(LINK, FRONT, "head", "closed"), ("notches", LINK, FRONT, "head", "closed", lot), ())
        for other in ((((0, 1), False, (1, 3), True),), (((0, 1), True, (1, 3), False),), (((0, 1), True, (1, 2), True),), (), lot * 2, lot + lot):
            self.refuse(("notches", LINK, FRONT, "head", "closed", other), ())
        # At the place of the way (1, 1) x is t times the root of 2: above 1 from the root of 1/2 on.
        claim, paper = certify_notches(link=wide, angle=way(1, (1, 1)), end="head", state="steam")
        for knot, due in (
            (((-1, 0, 2), 1), True), (((1, 0, -2), 1), False), (((-2, 0, 4), 1), False), (((1, 0, -5, 0, 6), 3), True), (((1, 0, -5, 0, 6), 2), False),
            (((3, 0, -7, 0, 2), 2), True), (((3, 0, -7, 0, 2), 3), False), ((7, 10), False),
        ):
            self.assertIs(accepts(claim[:5] + (((knot, False, (1, 1), True),),), ()), due, knot)
        self.check(certify_always(LINK, TOP, "head", "steam"), ("always", LINK, TOP, "head", "steam"), ())
        claim, paper = certify_always(link=LINK, angle=FRONT, end="head", state="closed")
        self.assertEqual(claim, ("not always", LINK, FRONT, "head", "closed"))
        for point, due in (
            (paper, True), ((-1, 1), True), ((1, 1), True), ((1, 2), True), ((0, 1), False), ((1, 3), False), ((1, 7), False), ((-1, GREAT), True),
            ((3, 2), False), ((-3, 2), False), (((-1, 0, 2), 1), True), (((-1, 0, 2), 0), True), (((-1, 0, 10), 1), False), (((-2, 0, 1), 1), False),
            (((-2, 0, 1), 0), False), (((-1, 0, 2), 2), False), ((2, 4), False), (None, False), ((), False),
        ):
            self.assertIs(accepts(claim, point), due, point)

    def test_not_so_at_one_number_alone(self):
        # At this place x is 7 / 2 times the square of t less the root of 1/7: steam at all ratios, and not at this root.
        link, angle = (1, (1, 1), (-2, 2), (7, 7), (0, 9, 9, 9), 1), (1, 2, 2, 1)
        claim, paper = certify_always(link, angle, "head", "steam")
        self.assertEqual(claim, ("not always", link, angle, "head", "steam"))
        for point, due in (
            (paper, True), (((-1, 0, 7), 1), True), (((-1, 0, 7), 0), False), (((2, 0, -15, 0, 7), 2), True), ((0, 1), False), ((3, 8), False), ((1, 1), False),
        ):
            self.assertIs(accepts(claim, point), due, point)
        self.refuse(("always",) + claim[1:], (), paper)
        lot = certify_notches(link, angle, "head", "closed")[0][5]
        self.assertEqual(len(lot), 1)
        self.assertIs(accepts(("notches", link, angle, "head", "closed", ((((-1, 0, 7), 1), True, ((2, 0, -15, 0, 7), 2), True),)), ()), True)
        self.refuse(("notches", link, angle, "head", "closed", ()), ())

    def test_riders_and_engines(self):
        valve = (1, (0, 4), (1, 0, 1, 0), 1)
        self.check(certify_kinds(valve, (-4, 4), "head"), ("kinds", valve, (-4, 4), "head", ("shut", "early", "whole")), ())
        self.check(certify_kinds(valve=valve, rider=(0, 8), end="head"), ("kinds", valve, (0, 8), "head", ("shut", "twice", "whole")), ())
        for kinds in (("shut", "late", "whole"), ("shut", "early"), ["shut", "early", "whole"], (), "shut", ("shut", "early", "whole", "whole"), None, (Grumpy(),)):
            self.refuse(("kinds", valve, (-4, 4), "head", kinds), ())
        engine = ENGINE[0]
        self.check(certify_start(engine, 1), ("starts", engine, 1), ())
        claim, paper = certify_start(engine=engine, sense=-1)
        self.assertEqual(claim, ("hangs", engine, -1))
        for angle in (paper, FRONT, TOP, BACK):
            self.assertIs(accepts(claim, angle), True)
            self.refuse(("hangs", engine, 1), angle)
        one = (1, engine[1][:1])
        claim, paper = certify_start(one, 1)
        self.assertEqual([accepts(claim, angle) for angle in (FRONT, BACK, TOP, paper)], [True, True, False, True])
        self.check(certify_pull(engine, 1, (9, 10)), ("above", engine, 1, (9, 10)), ())
        claim, paper = certify_pull(engine=engine, sense=1, ratio=(1, 1))
        self.assertEqual(claim, ("not above", engine, 1, (1, 1)))
        self.assertEqual([accepts(claim, angle) for angle in (paper, FRONT, TOP, way(1, (1, 1)), way(1, (3, 4)))], [True, True, True, False, False])
        claim, paper = certify_pull(engine, -1, (-7, 5))
        self.assertEqual([accepts(claim, angle) for angle in (paper, FRONT, TOP, way(1, (1, 1)), way(1, (3, 4)))], [True, False, False, True, True])

    def test_geared(self):
        self.check(certify_zone(PAIR, 1, (0, 1), (1, 1)), ("zone", PAIR, 1, (0, 1), (1, 1)), ())
        self.check(certify_zone(PAIR, 1, (1, GREAT), (2, GREAT - 1)), ("zone", PAIR, 1, (1, GREAT), (2, GREAT - 1)), ())
        self.check(certify_zone(geared=PAIR, sense=-1, low=(0, 1), high=(1, 1)), ("no zone", PAIR, -1, (0, 1), (1, 1)), ())
        # A critical notch within, although it starts on both sides of it.
        for low, high, due in (((-1, 1), (-2, 3), "zone"), ((-1, 1), (0, 1), "no zone"), ((2, 3), (1, 1), "zone"), ((-1, 1), (1, 1), "no zone")):
            self.check(certify_zone(MIDDLE, 1, low, high), (due, MIDDLE, 1, low, high), ())
            self.refuse(("no zone" if due == "zone" else "zone", MIDDLE, 1, low, high), ())
        pressed = (1, (0, 0), (0, 0), (0, 1), (0, 0, 0, 0), 1)
        geared = (1, (((1, 0), 1, pressed), ((1, 1), 1, pressed)))
        self.check(certify_zone(geared, 1, (-1, 2), (1, 2)), ("no zone", geared, 1, (-1, 2), (1, 2)), ())
        self.check(certify_zone(geared, 1, (0, 1), (1, 2)), ("zone", geared, 1, (0, 1), (1, 2)), ())
        for low, high, given in (((1, 2), (1, 2), 1), ((1, 2), (0, 1), 1), ((-3, 2), (0, 1), 0), ((0, 1), (3, 2), 1), ((3, 2), (1, 1), 0)):
            with self.assertRaises(InvalidNotch) as told:
                certify_zone(PAIR, 1, low, high)
            self.assertIs(told.exception.given, (low, high)[given])
            self.refuse(("no zone", PAIR, 1, low, high), ())
            self.refuse(("zone", PAIR, 1, low, high), ())
        self.check(certify_run(PAIR, 1, (1, 2)), ("runs", PAIR, 1, (1, 2)), ())
        claim, paper = certify_run(geared=PAIR, sense=1, notch=(0, 1))
        self.assertEqual(claim, ("stalls", PAIR, 1, (0, 1)))
        for angle in (paper, FRONT, TOP, way(1, (5, 12))):
            self.assertIs(accepts(claim, angle), True)
        self.refuse(claim, (), (2, 0, 1, 0), None)

    def test_fits(self):
        sightings = (((0, 1), "head", "admission", (1, 0)), ((0, 1), "head", "cutoff", (3, 4)))
        link = (1, (3, 4), (1, 0), (0, 2), (3, 0, 3, 0), 2)
        self.check(certify_fit(link, sightings), ("fits", link, sightings), ())
        third = ((0, 1), "head", "cutoff", (1, 1))
        self.check(certify_fit(link=link, sightings=sightings + (third,)), ("misses", link, sightings + (third,)), ())
        claim, paper = certify_fitting(1, sightings)
        self.assertEqual(claim, ("fitting", 1, sightings))
        self.assertTrue(accepts(claim, paper) and accepts(claim, link) and accepts(claim, link[:5] + (GREAT + 1,)))
        self.refuse(claim, (2,) + link[1:], link[:5], list(link), LINK, (link,), ())
        claim, (ahead, along) = certify_fitting(form=1, sightings=sightings + (third,))
        self.assertEqual(claim, ("barred", 1, sightings + (third,)))
        self.assertIs(accepts(claim, (tuple(GREAT * a for a in ahead), tuple(GREAT * b for b in along))), True)
        noughts = (0, 0, 0)
        self.refuse(
            claim, (tuple(-a for a in ahead), tuple(-b for b in along)), (noughts, noughts), (ahead, noughts), (list(ahead), along), (ahead, list(along)),
            (along, ahead), (ahead,), (ahead, along, ()), (ahead + (0,), along), (ahead, along + (0,)), (ahead[:2], along[:2]), (ahead[0] + 1, ) + ahead[1:],
            ((ahead[0] + 1,) + ahead[1:], along), (ahead, (along[0] + 1,) + along[1:]), ((None,) * 3, (None,) * 3), ((True, 0, 0), (0, True, 0)), ((), ()),
        )

    def test_a_bar_below_nought(self):
        # Twice one sighting: the difference of its two rows is nothing, but with a number below 0.
        sighting = ((0, 1), "head", "cutoff", (1, 1))
        claim = ("barred", 1, (sighting, sighting))
        self.refuse(claim, ((1, -1), (1, -1)), ((0, 0), (1, -1)), ((0, 0), (-1, 1)), ((1, -1), (0, 0)))
        both = (sighting, ((0, 1), "head", "admission", (1, 1)))
        self.assertIs(accepts(("barred", 1, both), ((0, 0), (1, 1))), True)
        self.assertIs(accepts(("barred", 1, both), ((5, -5), (3, 3))), True)
        self.refuse(("barred", 1, both), ((0, 0), (1, 2)), ((0, 0), (True, True)), ((0, 0), (-1, -1)))

    def test_following(self):
        sightings = (((0, 1), "head", "admission", (1, 0)), ((0, 1), "head", "cutoff", (3, 4)))
        other = ((0, 1), "head", "release", (1, 2))
        self.check(certify_following(1, sightings, sightings[0]), ("follows", 1, sightings, sightings[0]), ())
        claim, paper = certify_following(form=1, sightings=sightings, sighting=other)
        self.assertEqual(claim, ("free", 1, sightings, other))
        self.assertIs(accepts(claim, paper), True)
        # A link that fits the sighting, too, one that misses the sightings, one of another form.
        fitting = certify_fitting(1, sightings + (other,))[1]
        self.refuse(claim, fitting, LINK, (2,) + paper[1:], ())
        barred = sightings + (((0, 1), "head", "cutoff", (1, 1)),)
        self.refuse(("follows", 1, barred, sightings[0]), ())
        self.refuse(("free", 1, barred, other), paper, LINK)
        with self.assertRaises(NoFit):
            certify_following(1, barred, other)
        with self.assertRaises(InvalidSightings) as told:
            certify_following(1, barred, None)
        self.assertIsNone(told.exception.index)

    def test_looks(self):
        wrongs = (("right",), ("moved", (1, 1)), ("moved", (-1, 1)), ("opposite",), ("thrown", (1, 1)))
        self.check(certify_blind(SLIDE, wrongs[0], wrongs[4]), ("blind", SLIDE, wrongs[0], wrongs[4]), ())
        claim, paper = certify_blind(valve=SLIDE, wrong=wrongs[0], other=wrongs[1])
        self.assertEqual(claim, ("parted", SLIDE, wrongs[0], wrongs[1]))
        for look, due in ((paper, True), ((FRONT, "head"), True), ((TOP, "head"), False), ((FRONT, "crank"), False), (FRONT, False), (("head", FRONT), False)):
            self.assertIs(accepts(claim, look), due)
        looks = ((FRONT, "head"), (TOP, "head"))
        claim, paper = certify_looks(SLIDE, wrongs)
        self.assertEqual(claim, ("looks", SLIDE, wrongs, 2))
        self.assertEqual(certify_looks(valve=SLIDE, wrongs=wrongs)[0], claim)
        self.assertTrue(accepts(claim, paper) and accepts(claim, looks) and accepts(claim, looks[::-1]))
        # One look too many, one too few, one twice, one that does nothing, one of another form.
        three = looks + ((FRONT, "crank"),)
        self.refuse(claim, three, looks[:1], looks[:1] * 2, (looks[0], (FRONT, "crank")), list(looks), (), ((looks[0], ((2, 1, 0, 0), "head"))))
        for number, told in ((3, three), (1, looks[:1]), (3, looks), (True, looks), (None, looks), (-2, looks), ("2", looks)):
            self.refuse(claim[:3] + (number,), told)
        self.check(certify_looks(SLIDE, wrongs[:1]), ("looks", SLIDE, wrongs[:1], 0), ())
        self.assertEqual(len(any_fewest_looks(SLIDE, wrongs)), 2)


def way(form, pair):
    first, second = -form * pair[1], pair[0]
    return (form, first // gcd(first, second), second // gcd(first, second), 0)


class Functions(unittest.TestCase):
    def test_the_parts_are_those_that_were_passed(self):
        for claim, _ in CLAIMS:
            maker, many = MAKERS[claim[0]]
            told = maker(*claim[1:1 + many])[0]
            for part, other in zip(told[1:1 + many], claim[1:1 + many]):
                self.assertIs(part, other)

    def test_all_functions_are_met(self):
        names = {name for name in vars(certificates) if name.startswith("certify_")}
        self.assertEqual(names, {maker.__name__ for maker, _ in MAKERS.values()})

    def test_equal_calls(self):
        for claim, paper in CLAIMS[::7]:
            maker, many = MAKERS[claim[0]]
            self.assertEqual(maker(*claim[1:1 + many]), (claim, paper))


if __name__ == "__main__":
    unittest.main()
