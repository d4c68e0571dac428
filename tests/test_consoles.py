"""Consoles: the nine lines, their answers, and what they refuse."""

import unittest
import unittest.mock

from steamlinks.angles import way_angle
from steamlinks.consoles import Console
from steamlinks.engines import mirrored_engine
from steamlinks.errors import Broken, InUse, InvalidPhrase, NotAWorkshop, NothingToUndo, SteamError, UnknownName
from steamlinks.settings import moved, thrown
from steamlinks.valves import state_at
from steamlinks.workshops import Workshop
from tests.arguments import STRANGE
from tests.samples import GREAT, some_valves
from tests.test_engines import some_engines
from tests.test_workshops import looks_of

SLIDE = (1, (3, 4), (3, 0, 3, 0), 2)
PLAIN = (1, (0, 1), (0, 0, 0, 0), 1)
ONE, PAIR = (1, (((1, 0), 1, PLAIN),)), (1, (((1, 0), 1, PLAIN), ((1, 1), 1, PLAIN)))
SLIDE_TEXT, PAIR_TEXT = "1 3 4 3 0 3 0 2", "1; 1 0 1 0 1 0 0 0 0 1; 1 1 1 0 1 0 0 0 0 1"
# Lines of no form, with a valve at a, an engine at b and nothing at c.
BAD_LINES = (
    "", " ", "x", "done", "none", "help", "undo ", " undo", "Undo", "UNDO", "undo a", "undo: a", "undo a: 1", "names ", " names", "names a", "Names", "name",
    "drop", "drop ", "drop  a", "drop a ", "drop a b", "Drop a", "drop A", "drop a1", "drop aaaaaaaaaaaaa", "drop a: 1 0", "drop: a", "drop a:", "drop  ",
    "show", "show ", "show a ", "show  a", "show a b", "show A", "Show a", "show: a", "show a: ", "show a: 1 0", "leads", "leads a b", "leads A", "leads a ",
    "lead a", "starts", "starts 1", "starts a 1", "starts a: 1", "starts A", "start a", "valve", "valve a", "valve a:", "valve a: ", "valve a " + SLIDE_TEXT,
    "valve a:" + SLIDE_TEXT, "valve a:  " + SLIDE_TEXT, "valve  a: " + SLIDE_TEXT, "valve a : " + SLIDE_TEXT, " valve a: " + SLIDE_TEXT,
    "valve a: " + SLIDE_TEXT + " ", "valve a: " + SLIDE_TEXT + " 1", "valve a: 1 3 4 3 0 3 0", "valve a: 1 3 4 3 0 3  0 2", "valve A: " + SLIDE_TEXT,
    "valve : " + SLIDE_TEXT, "valve: " + SLIDE_TEXT, "valve aaaaaaaaaaaaa: " + SLIDE_TEXT, "valve a b: " + SLIDE_TEXT, "Valve a: " + SLIDE_TEXT,
    "valve a: 0 3 4 3 0 3 0 2", "valve a: 4 3 4 3 0 3 0 2", "valve a: 1 3 4 3 0 3 0 0", "valve a: 1 3 4 3 0 3 0 -2", "valve a: 1 6 8 6 0 6 0 4",
    "valve a: 1 3 4 3 0 3 0 +2", "valve a: 1 3 4 3 0 3 0 02", "valve a: 1 3 4 3 -0 3 0 2", "valve a: 1 3 4 3 00 3 0 2", "valve a: 1 3 4 3 0 3 0 2.0",
    "valve a: 1 3 4 3 0 3 0 2;", "valve a: 1,3,4,3,0,3,0,2", "valve a: 1 3 4 3 0 3 0 1_0", "valve a: 1 3 4 3 0 3 0 x", "valve a: 1 3 4 3 0 3 0 --2",
    "valve a: 1 3 4 3 0 3 0 -", "valve a: 1 3 4 3 0 - 0 2", "valve a: True 3 4 3 0 3 0 2", "valve a: " + PAIR_TEXT, "valve a: a: " + SLIDE_TEXT,
    "valve a: 1; 3 4 3 0 3 0 2", "valve a: (1, (3, 4), (3, 0, 3, 0), 2)", "engine", "engine a", "engine a:", "engine a: ", "engine a: 1", "engine a: 1; ",
    "engine a: " + SLIDE_TEXT, "engine a: 1;1 0 1 0 1 0 0 0 0 1", "engine a: 1 ; 1 0 1 0 1 0 0 0 0 1", "engine a: 1;  1 0 1 0 1 0 0 0 0 1",
    "engine a: 1; 1 0 1 0 1 0 0 0 0 1;", "engine a: 1; 1 0 1 0 1 0 0 0 0 1; ", "engine a: 1; 1 0 1 0 1 0 0 0 0", "engine a: 1; 1 0 1 0 1 0 0 0 0 1 1",
    "engine a: 4; 1 0 1 0 1 0 0 0 0 1", "engine a: 1; 2 0 1 0 1 0 0 0 0 1", "engine a: 1; 0 -1 1 0 1 0 0 0 0 1", "engine a: 1; 1 0 0 0 1 0 0 0 0 1",
    "engine a: 1; 1 0 -1 0 1 0 0 0 0 1", "engine a: 1; 1 0 1 0 1 0 0 0 0 0", "engine a: 1; 1 0 1 0 2 0 0 0 0 2", "engine a: x; 1 0 1 0 1 0 0 0 0 1",
    "engine a: 01; 1 0 1 0 1 0 0 0 0 1", "engine a: ; 1 0 1 0 1 0 0 0 0 1", "engine a: " + PAIR_TEXT + PAIR_TEXT[1:] + "; 1 0 1 0 1 0 0 0 0 1",
    "engine A: " + PAIR_TEXT, "Engine a: " + PAIR_TEXT, "engine a: 1; 1 0 1 1 0 1 0 0 0 0 1", "engine a: " + PAIR_TEXT + " ", "engine  a: " + PAIR_TEXT,
    "engine a: 1; 1 0 1 0 1 0 0 0 0 1, 1 1 1 0 1 0 0 0 0 1", "engine a: 1; 1 0 1; 0 1 0 0 0 0 1", "state", "state a", "state a:", "state a: ", "state a: 1",
    "state a: 1 0 0", "state a: 0 0", "state a: 2 0", "state a: 2 4", "state a: 1  0", "state a:1 0", "state a: 1 0 ", "state a:  1 0", "state A: 1 0",
    "state a: 1 -0", "state a: +1 0", "state a: x y", "state a 1 0", "State a: 1 0", "state a: 1,0", "state a: 01 1", "states a: 1 0", "state a: a: 1 0",
    "show a\n", "undo\n", "undo\t", "show\ta", "state a: 1 0\n", "state a: \u0661 0", "state a: \u00b2 1", "show \u00e0", "undo\u00a0", "x" * 4000, "show " + "a" * 3995,
)


def filled():
    shop = Workshop()
    shop.put("a", SLIDE)
    shop.put("b", PAIR)
    return shop


class Consoles(unittest.TestCase):
    def test_all_nine(self):
        shop = Workshop()
        console = Console(shop)
        for line, answer in (
            ("names", "none"), ("valve slide: " + SLIDE_TEXT, "done"), ("engine pair: " + PAIR_TEXT, "done"), ("names", "pair slide"),
            ("show slide", SLIDE_TEXT), ("show pair", PAIR_TEXT), ("state slide: 1 0", "closed exhaust"), ("state slide: 0 1", "steam exhaust"),
            ("state slide: -4 3", "closed closed"), ("state pair: 1 0", "closed closed; steam exhaust"), ("state pair: 0 -1", "exhaust steam; closed closed"),
            ("leads slide", "0 0"), ("leads pair", "none"), ("starts slide", "none"), ("starts pair", "forward"), ("drop slide", "done"),
            ("names", "pair"), ("undo", "done"), ("names", "pair slide"), ("undo", "done"), ("undo", "done"), ("names", "none"),
        ):
            self.assertEqual(console.say(line), answer, line)
        self.assertEqual(len(shop), 0)
        self.assertEqual(Console(shop=shop).say(line="names"), "none")

    def test_the_workshop_is_the_one_that_was_passed(self):
        shop = filled()
        console, other = Console(shop), Console(shop)
        self.assertEqual(console.say("valve none: " + SLIDE_TEXT), "done")
        self.assertEqual(shop.named("none"), SLIDE)
        self.assertEqual(other.say("names"), "a b none")
        shop.put("state", PAIR)
        self.assertEqual(console.say("show state"), PAIR_TEXT)
        self.assertEqual(console.say("state state: 1 0"), "closed closed; steam exhaust")
        self.assertTrue(console and console == console and console != other)
        for value in STRANGE + (shop, other, unittest.mock.ANY):
            self.assertIs(console == value, False)
            self.assertIs(console != value, True)

    def test_answers(self):
        shop = filled()
        console = Console(shop)
        for thing, line, answer in (
            (moved(SLIDE, (1, 2)), "leads x", "1 -1"), (moved(SLIDE, (1, 2)), "show x", "1 6 8 5 1 7 -1 4"), ((2, (-3, 0), (1, 0, -5, 0), 7), "leads x", "-4 2"),
            (mirrored_engine(PAIR), "starts x", "backward"), (ONE, "starts x", "neither"), (ONE, "show x", "1; 1 0 1 0 1 0 0 0 0 1"),
            (mirrored_engine(PAIR), "show x", "1; 1 0 1 0 -1 0 0 0 0 1; 1 -1 1 0 -1 0 0 0 0 1"), (ONE, "state x: -1 0", "closed closed"),
            ((1, (3, 4), (-1, -1, 3, 0), 2), "state x: 4 -3", "both closed"), ((3, (1, 1), (0, 0, 0, 0), 1), "state x: 1 -1", "exhaust steam"),
            ((3, (1, 1), (0, 0, 0, 0), 1), "state x: 3 -1", "closed closed"), ((3, (1, 1), (0, 0, 0, 0), 1), "state x: -1 0", "exhaust steam"),
        ):
            shop.put("x", thing)
            self.assertEqual(console.say(line), answer, (thing, line))

    def test_texts_lead_back(self):
        console = Console(Workshop())
        for word, things in (("valve", some_valves(40, 121)), ("engine", some_engines(30, 122))):
            for thing in things:
                shop = Workshop()
                shop.put("a", thing)
                text = Console(shop).say("show a")
                self.assertEqual(console.say(f"{word} b: {text}"), "done")
                self.assertEqual(console.say("show b"), text)
                self.assertEqual(Console(shop).say(f"{word} c: {text}"), "done")
                self.assertEqual(shop.named("c"), thing)

    def test_texts_are_the_numbers(self):
        shop = Workshop()
        for form, (first, second), laps, port in some_valves(20, 123):
            shop.put("a", (form, (first, second), laps, port))
            numbers = (form, first, second) + laps + (port,)
            self.assertEqual(Console(shop).say("show a"), " ".join([str(number) for number in numbers]))

    def test_states_are_those_at_the_way(self):
        shop = Workshop()
        for valve in some_valves(20, 124):
            shop.put("a", valve)
            for c, s in ((1, 0), (0, 1), (-1, 0), (0, -1), (3, 4), (-5, 2), (1, -1)):
                due = " ".join([state_at(valve, end, way_angle(valve[0], (c, s))) for end in ("head", "crank")])
                self.assertEqual(Console(shop).say(f"state a: {c} {s}"), due)

    def test_figures_of_long_numbers(self):
        shop = Workshop()
        console = Console(shop)
        for many in (1, 9, 63, 64, 65, 127, 128, 129, 399, 400):
            number = int(("1029384756" * 40)[:many])
            for sign in (1, -1):
                shop.put("a", (1, (sign * number, 0), (0, -number, 10 ** many, 0), 1))
                text = f"1 {sign * number} 0 0 -{number} {10 ** many} 0 1"
                self.assertEqual(console.say("show a"), text)
                self.assertEqual(console.say("valve b: " + text), "done")
                self.assertEqual(shop.named("b"), shop.named("a"))
                self.assertEqual(console.say("leads a"), f"{sign * number} {sign * number - 10 ** many}")

    def test_great_numbers(self):
        shop = filled()
        console = Console(shop)
        line = f"valve c: 1 {GREAT} -{GREAT} {GREAT + 1} 0 -1 0 1"
        self.assertEqual(console.say(line), "done")
        self.assertEqual(console.say("show c"), line[9:])
        self.assertEqual(console.say("leads c"), f"-1 {GREAT + 1}")
        # What the package makes may be longer than all that Python writes at once.
        valve = shop.named("c")
        for _ in range(14):
            valve = thrown(valve, (GREAT + 1, GREAT + 3))
        shop.put("c", valve)
        text = console.say("show c")
        self.assertGreater(len(text), 5000)
        self.assertEqual(console.say("valve d: " + text), "done")
        self.assertEqual(shop.named("d"), valve)
        self.assertEqual(console.say("leads d"), console.say("leads c"))

    def check_refused(self, console, shop, error, kept, line):
        before = looks_of(shop)
        for call in (lambda: console.say(line), lambda: console.say(line=line)):
            try:
                answer = call()
            except SteamError as told:
                self.assertIs(type(told), error, line)
                for attribute, due in kept.items():
                    self.assertEqual(getattr(told, attribute), due)
                if error is InvalidPhrase:
                    self.assertIs(told.given, line)
            else:
                self.fail(f"{line!r}: no error but {answer!r}")
        self.assertEqual(looks_of(shop), before)

    def test_no_phrases(self):
        shop = filled()
        console = Console(shop)
        for line in BAD_LINES:
            self.check_refused(console, shop, InvalidPhrase, {}, line)
        for value in STRANGE + (0, b"undo", ("undo",), ["undo"]):
            self.check_refused(console, shop, InvalidPhrase, {}, value)

    def test_errors_of_what_is_called(self):
        shop = filled()
        console = Console(shop)
        shop.wish(("lead above", "a", "head", (-1, 1)))
        shop.wish(("starts", "b", 1))
        for line, error, kept in (
            ("drop c", UnknownName, {"given": "c"}), ("show c", UnknownName, {"given": "c"}), ("leads undo", UnknownName, {"given": "undo"}),
            ("starts ab", UnknownName, {"given": "ab"}), ("state c: 1 0", UnknownName, {"given": "c"}), ("drop a", InUse, {"index": 0}),
            ("drop b", InUse, {"index": 1}), ("valve a: 1 3 4 4 0 4 0 2", Broken, {"index": 0}), ("engine a: " + PAIR_TEXT, Broken, {"index": 0}),
            ("valve b: " + SLIDE_TEXT, Broken, {"index": 1}), ("engine b: 1; 1 0 1 0 1 0 0 0 0 1", Broken, {"index": 1}),
        ):
            self.check_refused(console, shop, error, kept, line)
        for _ in range(4):
            self.assertEqual(console.say("undo"), "done")
        self.check_refused(console, shop, NothingToUndo, {}, "undo")

    def test_no_workshop(self):
        for value in STRANGE + (Workshop, Console(Workshop()), Workshop().trial(), "shop"):
            for call in (lambda: Console(value), lambda: Console(shop=value)):
                with self.assertRaises(NotAWorkshop) as told:
                    call()
                self.assertIs(told.exception.given, value)


if __name__ == "__main__":
    unittest.main()
