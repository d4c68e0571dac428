"""Workshops: things under names, wishes that hold, changes taken back, trials."""

import unittest
import unittest.mock
from random import Random

from steamlinks import errors
from steamlinks.alike import are_alike
from steamlinks.engines import is_above, is_engine, mirrored_engine, starts_everywhere
from steamlinks.errors import Broken, InUse, InvalidIndex, InvalidName, InvalidThing, InvalidWish, NothingToUndo, SteamError, UnknownName
from steamlinks.regions import is_never
from steamlinks.settings import moved, thrown
from steamlinks.valves import is_valve, leads, state_at, state_region
from steamlinks.workshops import Workshop
from tests.arguments import BAD, CYLINDER, FRONT, LINK, STRANGE, Grumpy
from tests.samples import GREAT

SLIDE = (1, (3, 4), (3, 0, 3, 0), 2)
LONGER = (1, (6, 8), (6, 0, 6, 0), 1)
EARLY = moved(SLIDE, (1, 1))
OTHER_FORM = (2, (3, 4), (3, 0, 3, 0), 2)
PLAIN = (1, (0, 1), (0, 0, 0, 0), 1)
ONE, PAIR = (1, (((1, 0), 1, PLAIN),)), (1, (((1, 0), 1, PLAIN), ((1, 1), 1, PLAIN)))
BACKWARD = mirrored_engine(PAIR)
TOP = (1, -1, 0, 0)
# Values that cannot be names.
BAD_NAMES = tuple(value for value in STRANGE if not (isinstance(value, str) and value == "x")) + (
    0, 1, -1, "A", "aB", "a1", "1a", "a b", " a", "a ", "a_b", "a-b", "abcdefghijklm", "a" * 4000, ("a",), ["a"], b"a", "a.", "~", "`", "{",
)
# Wishes that are none, whatever there is.
BAD_WISHES = STRANGE + (
    "state", ("state",), ("state", "a"), ("state", "a", TOP), ("state", "a", TOP, "head"), ("state", "a", TOP, "head", "open"),
    ("state", "a", TOP, "heads", "steam"), ("state", "a", (1, 3, 4, 5), "head", "steam"), ("state", "a", TOP, "head", "steam", 1),
    ("state", "A", TOP, "head", "steam"), ("state", TOP, "a", "head", "steam"), ["state", "a", TOP, "head", "steam"],
    ("State", "a", TOP, "head", "steam"), ("state", "a", TOP, "steam", "head"), ("state", "a", list(TOP), "head", "steam"),
    ("state", Grumpy(), TOP, "head", "steam"), ("state", "a", Grumpy(), "head", "steam"), ("state", "a", TOP, Grumpy(), "steam"),
    ("state", "a", TOP, "head", Grumpy()), (Grumpy(), "a", TOP, "head", "steam"), ("never", "a"), ("never", "a", "head"),
    ("never", "a", "head", "open"), ("never", "a", "steam", "head"), ("never", "a", "head", "both", 1), ("never", "", "head", "both"),
    ("never", "a", TOP, "head", "both"), ("never", "abcdefghijklm", "head", "both"), ("never", "a", None, "both"),
    ("lead above", "a"), ("lead above", "a", "head"), ("lead above", "a", "head", (2, 4)), ("lead above", "a", "head", 1),
    ("lead above", "a", "head", (1, 0)), ("lead above", "a", (1, 1), "head"), ("lead above", "a", "both", (1, 1)),
    ("lead above", "a", "head", (1, 1), 1), ("lead", "a", "head", (1, 1)), ("lead above", "a", "head", Grumpy()), ("lead_above", "a", "head", (1, 1)),
    ("alike", "a"), ("alike", "a", "b", "c"), ("alike", "a", "B"), ("alike", "A", "b"), ("alike", "a", None), ("alike", None, "b"),
    ("alike", "a", SLIDE), ("alike", Grumpy(), "b"), ("alike", "a", Grumpy()), ("alike", ("a", "b")), ["alike", "a", "b"], ("unlike", "a", "b"),
    ("starts", "a"), ("starts", "a", 0), ("starts", "a", 2), ("starts", "a", True), ("starts", "a", "forward"), ("starts", "a", 1, 1),
    ("starts", "a b", 1), ("starts", 1, "a"), ("starts", "a", (1,)), ("starts", "a", Grumpy()), ("hangs", "a", 1),
    ("pull above", "a"), ("pull above", "a", 1), ("pull above", "a", (1, 1)), ("pull above", "a", 2, (1, 1)), ("pull above", "a", 1, (2, 2)),
    ("pull above", "a", 1, 0), ("pull above", "a", (1, 1), 1), ("pull above", "a", 1, (1, 1), 1), ("pull above", "a", True, (1, 1)),
    ("pull above", "a", 1, Grumpy()), ("not above", "a", 1, (1, 1)), ("right",), ("state", "a", TOP, "head", ("steam",)),
)
BAD_THINGS = tuple(
    value for kind in ("valve", "engine") for value, _ in BAD[kind][1] if not is_valve(value) and not is_engine(value)
) + (LINK, (1, (((1, 0), 1, LINK),)), "1 3 4 3 0 3 0 2", (SLIDE, PAIR))


def filled(**things):
    shop = Workshop()
    for name, thing in things.items():
        shop.put(name, thing)
    return shop


def looks_of(shop):
    """All that a workshop tells."""
    return (len(shop), shop.names, [shop.named(name) for name in shop.names], shop.wishes)


class Check(unittest.TestCase):
    def check_error(self, shop, error, kept, call):
        """The call raises the error, which keeps the pair (attribute, value), and nothing has changed."""
        before = looks_of(shop)
        try:
            answer = call()
        except SteamError as told:
            self.assertIs(type(told), error)
            if kept is not None:
                attribute, due = kept
                found = getattr(told, attribute)
                if attribute == "given":
                    self.assertIs(found, due)
                else:
                    self.assertEqual((type(found), found), (type(due), due))
        else:
            self.fail(f"no {error.__name__} but {answer!r}")
        self.assertEqual(looks_of(shop), before)


class Things(Check):
    def test_put_named_dropped(self):
        shop = Workshop()
        self.assertEqual((len(shop), shop.names, shop.wishes), (0, (), ()))
        self.assertIsNone(shop.put("slide", SLIDE))
        self.assertIsNone(shop.put(name="pair", thing=PAIR))
        self.assertIsNone(shop.put("abcdefghijkl", OTHER_FORM))
        self.assertEqual(shop.names, ("abcdefghijkl", "pair", "slide"))
        self.assertIs(shop.named("slide"), SLIDE)
        self.assertIs(shop.named(name="pair"), PAIR)
        self.assertIsNone(shop.drop("abcdefghijkl"))
        self.assertIsNone(shop.drop(name="pair"))
        self.assertEqual((shop.names, len(shop)), (("slide",), 5))

    def test_put_again(self):
        shop = filled(a=SLIDE)
        for thing in (EARLY, PAIR, SLIDE, SLIDE, (1, (0, GREAT), (1, 0, 1, 0), 1)):
            shop.put("a", thing)
            self.assertIs(shop.named("a"), thing)
        # What leaves everything as it is counts, too.
        self.assertEqual((shop.names, len(shop)), (("a",), 6))

    def test_names_ascend(self):
        shop = Workshop()
        for name in ("b", "ab", "z", "a", "aa", "ba", "b"):
            shop.put(name, SLIDE)
        self.assertEqual(shop.names, ("a", "aa", "ab", "b", "ba", "z"))

    def test_contains(self):
        shop = filled(a=SLIDE, x=PAIR)
        self.assertTrue("a" in shop and "x" in shop)
        for value in BAD_NAMES + ("b", "ax", "xa"):
            self.assertIs(value in shop, False)
        self.assertTrue("b" not in shop)
        shop.drop("a")
        self.assertIs("a" in shop, False)

    def test_truth_and_equality(self):
        shop, other = Workshop(), Workshop()
        self.assertTrue(shop and filled(a=SLIDE))
        self.assertTrue(shop == shop and not shop != shop)
        self.assertTrue(shop != other and not shop == other)
        for value in STRANGE + (other, unittest.mock.ANY, Workshop, shop.trial()):
            self.assertIs(shop == value, False)
            self.assertIs(shop != value, True)

    def test_refused_names_and_things(self):
        shop = filled(a=SLIDE)
        for value in BAD_NAMES:
            self.check_error(shop, InvalidName, ("given", value), lambda: shop.put(value, SLIDE))
            self.check_error(shop, InvalidName, ("given", value), lambda: shop.put(value, None))
            self.check_error(shop, InvalidName, ("given", value), lambda: shop.put(thing=PAIR, name=value))
        for value in BAD_THINGS:
            self.check_error(shop, InvalidThing, ("given", value), lambda: shop.put("a", value))
            self.check_error(shop, InvalidThing, ("given", value), lambda: shop.put(thing=value, name="b"))
        for value in BAD_NAMES + ("b", "aa"):
            for call in (shop.drop, shop.named, lambda name: shop.drop(name=name), lambda name: shop.named(name=name)):
                self.check_error(shop, UnknownName, ("given", value), lambda: call(value))


class Wishes(Check):
    def shop(self):
        return filled(slide=SLIDE, longer=LONGER, early=EARLY, other=OTHER_FORM, one=ONE, pair=PAIR, back=BACKWARD)

    HOLD = (
        ("state", "slide", FRONT, "head", "closed"), ("state", "slide", TOP, "head", "steam"), ("state", "other", (2, 0, 1, 0), "crank", "exhaust"),
        ("never", "slide", "head", "both"), ("never", "slide", "crank", "both"), ("lead above", "slide", "head", (-1, GREAT)),
        ("lead above", "slide", "crank", (-1, 1)), ("lead above", "early", "head", (0, 1)), ("alike", "slide", "longer"),
        ("alike", "slide", "slide"), ("alike", "early", "early"), ("starts", "pair", 1), ("starts", "back", -1),
        ("pull above", "pair", 1, (9, 10)), ("pull above", "pair", -1, (-3, 2)), ("pull above", "one", 1, (-1, 1)), ("pull above", "back", -1, (0, 1)),
    )
    FAIL = (
        ("state", "slide", FRONT, "head", "steam"), ("state", "slide", TOP, "crank", "steam"), ("never", "slide", "head", "steam"),
        ("never", "slide", "head", "closed"), ("lead above", "slide", "head", (0, 1)),
        ("lead above", "early", "crank", (-1, 1)), ("lead above", "early", "crank", (0, 1)), ("alike", "slide", "early"), ("starts", "pair", -1),
        ("starts", "one", 1), ("starts", "back", 1), ("pull above", "pair", 1, (1, 1)), ("pull above", "one", 1, (0, 1)),
        # What does not suit the thing.
        ("state", "slide", (2, 0, 1, 0), "head", "closed"), ("state", "other", FRONT, "head", "closed"), ("state", "pair", FRONT, "head", "closed"),
        ("never", "pair", "head", "both"), ("lead above", "pair", "head", (-9, 1)), ("alike", "slide", "other"), ("alike", "slide", "pair"),
        ("alike", "pair", "slide"), ("alike", "pair", "pair"), ("starts", "slide", 1), ("pull above", "slide", 1, (-9, 1)),
    )

    def test_each_kind(self):
        for wish in self.HOLD:
            shop = self.shop()
            self.assertIsNone(shop.wish(wish))
            self.assertEqual((shop.wishes, len(shop)), ((wish,), 8))
            self.assertIs(shop.wishes[0], wish)
        for wish in self.FAIL:
            shop = self.shop()
            self.check_error(shop, Broken, ("index", 0), lambda: shop.wish(wish))
            shop.wish(self.HOLD[0])
            self.check_error(shop, Broken, ("index", 1), lambda: shop.wish(wish=wish))

    def test_all_at_once_and_twice(self):
        shop = self.shop()
        for wish in self.HOLD + self.HOLD:
            shop.wish(wish)
        self.assertEqual(shop.wishes, self.HOLD + self.HOLD)
        self.assertEqual(len(shop), 7 + 2 * len(self.HOLD))

    def test_refused(self):
        shop = self.shop()
        for value in BAD_WISHES:
            self.check_error(shop, InvalidWish, ("given", value), lambda: shop.wish(value))
            self.check_error(shop, InvalidWish, ("given", value), lambda: shop.wish(wish=value))

    def test_unknown_names(self):
        shop = self.shop()
        for wish, name in (
            (("state", "a", FRONT, "head", "closed"), "a"), (("never", "b", "head", "both"), "b"), (("lead above", "c", "head", (0, 1)), "c"),
            (("starts", "d", 1), "d"), (("pull above", "e", 1, (0, 1)), "e"), (("alike", "f", "slide"), "f"), (("alike", "slide", "g"), "g"),
            (("alike", "h", "i"), "h"), (("alike", "pair", "j"), "j"),
        ):
            self.check_error(shop, UnknownName, ("given", wish[2] if name in wish[2:] else wish[1]), lambda: shop.wish(wish))
        shop.drop("early")
        self.check_error(shop, UnknownName, None, lambda: shop.wish(("alike", "early", "early")))

    def test_valves_of_two_forms_are_never_alike(self):
        shop = filled(a=(1, (3, 0), (1, 0, 1, 0), 1), b=(2, (3, 0), (1, 0, 1, 0), 1), c=(1, (3, 0), (1, 0, 1, 0), 1))
        self.check_error(shop, Broken, ("index", 0), lambda: shop.wish(("alike", "a", "b")))
        shop.wish(("alike", "a", "c"))
        self.check_error(shop, Broken, ("index", 0), lambda: shop.put("c", shop.named("b")))

    def test_broken_by_a_put(self):
        shop = self.shop()
        for wish in self.HOLD:
            shop.wish(wish)
        for name, thing, index in (
            ("slide", EARLY, 0), ("slide", PAIR, 0), ("slide", OTHER_FORM, 0), ("longer", EARLY, 8), ("longer", PAIR, 8), ("early", SLIDE, 7),
            ("early", PAIR, 7), ("other", SLIDE, 2), ("one", SLIDE, 15), ("pair", ONE, 11), ("pair", BACKWARD, 11), ("back", PAIR, 12),
        ):
            self.check_error(shop, Broken, ("index", index), lambda: shop.put(name, thing))
        # Twice as long is the same; another engine may pull harder.
        shop.put("longer", SLIDE)
        shop.put("slide", thrown(thrown(SLIDE, (2, 1)), (1, 2)))
        shop.put("one", PAIR)
        self.assertEqual(len(shop), 7 + len(self.HOLD) + 3)

    def test_the_first_that_breaks(self):
        shop = filled(a=SLIDE, b=SLIDE, c=SLIDE)
        for wish in (("alike", "b", "c"), ("never", "a", "head", "both"), ("alike", "c", "a"), ("lead above", "a", "head", (-1, 1)), ("alike", "a", "c")):
            shop.wish(wish)
        self.check_error(shop, Broken, ("index", 2), lambda: shop.put("a", EARLY))
        self.check_error(shop, Broken, ("index", 1), lambda: shop.put("a", PAIR))
        self.check_error(shop, Broken, ("index", 0), lambda: shop.put("c", EARLY))
        shop.lift(2)
        self.check_error(shop, Broken, ("index", 3), lambda: shop.put("a", EARLY))
        shop.lift(3)
        shop.put("a", EARLY)

    def test_lifted(self):
        shop = self.shop()
        for wish in self.HOLD[:4]:
            shop.wish(wish)
        for value in tuple(value for value in STRANGE) + (4, 5, -1, -4, GREAT, (0,), "0"):
            self.check_error(shop, InvalidIndex, ("given", value), lambda: shop.lift(value))
        self.assertIsNone(shop.lift(1))
        self.assertEqual(shop.wishes, (self.HOLD[0], self.HOLD[2], self.HOLD[3]))
        self.assertIsNone(shop.lift(index=2))
        self.assertEqual(shop.wishes, (self.HOLD[0], self.HOLD[2]))
        shop.lift(0)
        shop.lift(0)
        self.assertEqual(shop.wishes, ())
        self.check_error(shop, InvalidIndex, ("given", 0), lambda: shop.lift(0))

    def test_in_use(self):
        shop = self.shop()
        for wish in (("starts", "pair", 1), ("alike", "longer", "slide"), ("alike", "slide", "longer"), ("lead above", "early", "head", (0, 1))):
            shop.wish(wish)
        for name, index in (("pair", 0), ("slide", 1), ("longer", 1), ("early", 3)):
            self.check_error(shop, InUse, ("index", index), lambda: shop.drop(name))
        shop.drop("one")
        shop.lift(1)
        self.check_error(shop, InUse, ("index", 1), lambda: shop.drop("slide"))
        shop.lift(1)
        shop.drop("slide")
        self.assertNotIn("slide", shop)
        # A wish that names a word of another wish's is no use of it.
        shop = filled(head=SLIDE, steam=SLIDE)
        shop.wish(("never", "head", "head", "both"))
        shop.drop("steam")


class Undoing(Check):
    def test_back_to_nothing(self):
        shop = Workshop()
        looks = [looks_of(shop)]
        for change in (
            lambda: shop.put("a", SLIDE), lambda: shop.put("a", SLIDE), lambda: shop.wish(("never", "a", "head", "both")), lambda: shop.put("a", EARLY),
            lambda: shop.put("b", PAIR), lambda: shop.wish(("starts", "b", 1)), lambda: shop.lift(0), lambda: shop.drop("a"), lambda: shop.put("a", ONE),
        ):
            change()
            looks.append(looks_of(shop))
        self.assertEqual([look[0] for look in looks], list(range(10)))
        while len(looks) > 1:
            self.assertEqual(looks_of(shop), looks.pop())
            self.assertIsNone(shop.undo())
        self.assertEqual(looks_of(shop), looks[0])
        self.check_error(shop, NothingToUndo, None, shop.undo)
        shop.put("c", SLIDE)
        self.assertEqual((shop.names, len(shop)), (("c",), 1))

    def test_errors_are_no_changes(self):
        shop = filled(a=SLIDE)
        for call in (lambda: shop.put("a", 1), lambda: shop.drop("b"), lambda: shop.wish(("starts", "a", 1)), lambda: shop.lift(0)):
            with self.assertRaises(SteamError):
                call()
        self.assertEqual(len(shop), 1)
        shop.undo()
        self.assertEqual(shop.names, ())

    def test_wishes_come_back(self):
        shop = filled(a=SLIDE)
        shop.wish(("never", "a", "head", "both"))
        shop.lift(0)
        shop.drop("a")
        shop.undo()
        shop.undo()
        self.assertEqual(shop.wishes, (("never", "a", "head", "both"),))
        self.check_error(shop, InUse, ("index", 0), lambda: shop.drop("a"))


class Odd(BaseException):
    pass


class Trials(Check):
    def test_that_end_well(self):
        shop = filled(a=SLIDE)
        with shop.trial() as same:
            self.assertIs(same, shop)
            same.put("b", PAIR)
            shop.wish(("starts", "b", 1))
        self.assertEqual((shop.names, shop.wishes, len(shop)), (("a", "b"), (("starts", "b", 1),), 3))
        with shop.trial():
            pass
        self.assertEqual(len(shop), 3)

    def test_a_call_alone_changes_nothing(self):
        shop = filled(a=SLIDE)
        before = looks_of(shop)
        trial = shop.trial()
        self.assertEqual(looks_of(shop), before)
        shop.put("b", SLIDE)
        # The block begins here, not where the trial was made.
        with self.assertRaises(ZeroDivisionError):
            with trial:
                shop.put("c", SLIDE)
                1 // 0
        self.assertEqual(shop.names, ("a", "b"))
        self.assertTrue(trial and trial == trial and trial != shop.trial())
        for value in STRANGE + (shop, unittest.mock.ANY):
            self.assertIs(trial == value, False)

    def test_that_end_with_an_exception(self):
        for error in (ZeroDivisionError("x"), errors.NoFit(), Odd(), KeyboardInterrupt()):
            shop = filled(a=SLIDE, b=PAIR)
            shop.wish(("starts", "b", 1))
            before = looks_of(shop)
            with self.assertRaises(type(error)) as told:
                with shop.trial() as same:
                    same.put("c", SLIDE)
                    same.lift(0)
                    same.drop("b")
                    raise error
            self.assertIs(told.exception, error)
            self.assertEqual(looks_of(shop), before)

    def test_errors_of_its_own(self):
        shop = filled(a=SLIDE)
        before = looks_of(shop)
        with self.assertRaises(UnknownName):
            with shop.trial():
                shop.put("b", SLIDE)
                shop.drop("c")
        self.assertEqual(looks_of(shop), before)
        # One that is caught within the block leaves what was done.
        with shop.trial():
            shop.put("b", SLIDE)
            try:
                shop.drop("c")
            except UnknownName:
                shop.put("c", SLIDE)
        self.assertEqual(shop.names, ("a", "b", "c"))

    def test_changes_from_before_undone_inside(self):
        shop = filled(a=SLIDE, b=SLIDE, c=SLIDE)
        before = looks_of(shop)
        with self.assertRaises(NothingToUndo):
            with shop.trial():
                for _ in range(4):
                    shop.undo()
        self.assertEqual(looks_of(shop), before)
        with shop.trial():
            shop.undo()
            shop.undo()
            shop.put("d", SLIDE)
        self.assertEqual((shop.names, len(shop)), (("a", "d"), 2))
        shop.undo()
        shop.undo()
        self.assertEqual((shop.names, len(shop)), ((), 0))

    def test_within_one_another(self):
        shop = filled(a=SLIDE)
        with shop.trial():
            shop.put("b", SLIDE)
            with self.assertRaises(ZeroDivisionError):
                with shop.trial():
                    shop.put("c", SLIDE)
                    with shop.trial():
                        shop.put("d", SLIDE)
                    self.assertEqual(shop.names, ("a", "b", "c", "d"))
                    1 // 0
            self.assertEqual((shop.names, len(shop)), (("a", "b"), 2))
            with shop.trial():
                shop.put("e", SLIDE)
        self.assertEqual((shop.names, len(shop)), (("a", "b", "e"), 3))
        with self.assertRaises(ZeroDivisionError):
            with shop.trial():
                with shop.trial():
                    shop.put("f", SLIDE)
                1 // 0
        self.assertEqual((shop.names, len(shop)), (("a", "b", "e"), 3))

    def test_two_workshops(self):
        shop, other = filled(a=SLIDE), filled(b=SLIDE)
        with self.assertRaises(ZeroDivisionError):
            with shop.trial(), other.trial():
                shop.put("c", SLIDE)
                other.put("c", SLIDE)
                1 // 0
        self.assertEqual((shop.names, other.names), (("a",), ("b",)))
        with self.assertRaises(ZeroDivisionError):
            with shop.trial():
                other.put("c", SLIDE)
                1 // 0
        self.assertEqual(other.names, ("b", "c"))

    def test_tried(self):
        shop = filled(a=SLIDE)
        self.assertEqual(shop.tried(lambda same: (same.put("b", PAIR), same is shop)), (None, True))
        self.assertEqual(shop.names, ("a", "b"))
        self.assertIsNone(shop.tried(action=lambda same: same.drop("b")))

        def fails(same):
            same.put("c", SLIDE)
            return 1 // 0

        before = looks_of(shop)
        with self.assertRaises(ZeroDivisionError):
            shop.tried(fails)
        self.assertEqual(looks_of(shop), before)

        def tries(same):
            same.put("d", SLIDE)
            with self.assertRaises(ZeroDivisionError):
                same.tried(fails)
            return same.names

        self.assertEqual(shop.tried(tries), ("a", "d"))
        self.assertEqual(shop.names, ("a", "d"))


class Model(unittest.TestCase):
    """A long run of changes beside a plain list of all states, with the wishes reckoned by the functions."""

    VALVES = (SLIDE, LONGER, EARLY, OTHER_FORM, (1, (3, 4), (-1, -1, 3, 0), 2))
    ENGINES = (ONE, PAIR, BACKWARD, (2, (((1, 0), 1, OTHER_FORM),)))
    NAMES = ("a", "b", "c", "d")

    def does_hold(self, wish, things):
        thing = things[wish[1]]
        if wish[0] == "alike":
            other = things[wish[2]]
            return is_valve(thing) and is_valve(other) and thing[0] == other[0] and are_alike(thing, other)
        if wish[0] == "starts":
            return is_engine(thing) and starts_everywhere(thing, wish[2])
        if wish[0] == "pull above":
            return is_engine(thing) and is_above(thing, wish[2], wish[3])
        if not is_valve(thing):
            return False
        if wish[0] == "state":
            return wish[2][0] == thing[0] and state_at(thing, wish[3], wish[2]) == wish[4]
        if wish[0] == "never":
            return is_never(state_region(thing, wish[2], wish[3]))
        return leads(thing)[("head", "crank").index(wish[2])] * wish[3][1] > wish[3][0]

    def some_wish(self, chance):
        name, end, sense = chance.choice(self.NAMES), chance.choice(("head", "crank")), chance.choice((1, -1))
        state, ratio = chance.choice(("steam", "exhaust", "both", "closed")), chance.choice(((0, 1), (-1, 1), (-3, 2), (1, 2)))
        return chance.choice((
            ("state", name, chance.choice((FRONT, TOP, (2, 0, 1, 0))), end, state), ("never", name, end, state), ("never", name, end, "both"),
            ("lead above", name, end, ratio), ("alike", name, chance.choice(self.NAMES)), ("starts", name, sense), ("pull above", name, sense, ratio),
        ))

    def due(self, action, told, things, wishes):
        """The pair of things and wishes behind a change, or an error's class and what it keeps."""
        if action == "put":
            after = {**things, told[0]: told[1]}
            broken = [index for index, wish in enumerate(wishes) if not self.does_hold(wish, after)]
            return (Broken, broken[0]) if broken else (after, wishes)
        if action == "drop":
            if told[0] not in things:
                return (UnknownName, told[0])
            used = [index for index, wish in enumerate(wishes) if told[0] in (wish[1:] if wish[0] == "alike" else wish[1:2])]
            return (InUse, used[0]) if used else ({name: thing for name, thing in things.items() if name != told[0]}, wishes)
        if action == "wish":
            names = told[0][1:] if told[0][0] == "alike" else told[0][1:2]
            unknown = [name for name in names if name not in things]
            if unknown:
                return (UnknownName, unknown[0])
            return (things, wishes + told) if self.does_hold(told[0], things) else (Broken, len(wishes))
        if not 0 <= told[0] < len(wishes):
            return (InvalidIndex, told[0])
        return (things, wishes[:told[0]] + wishes[told[0] + 1:])

    def some_action(self, chance, wishes):
        action = chance.choice(("put", "put", "drop", "wish", "wish", "wish", "lift", "undo", "undo"))
        name = chance.choice(self.NAMES)
        return action, {
            "put": (name, chance.choice(self.VALVES + self.ENGINES)), "drop": (name,), "wish": (self.some_wish(chance),),
            "lift": (chance.randint(0, max(len(wishes), 1)),), "undo": (),
        }[action]

    def test_run(self):
        chance = Random(111)
        met = set()
        for _ in range(12):
            shop, past, things, wishes = Workshop(), [], {}, ()
            for _ in range(120):
                action, told = self.some_action(chance, wishes)
                if action == "undo":
                    found = past[-1] if past else (NothingToUndo, None)
                else:
                    found = self.due(action, told, things, wishes)
                if isinstance(found[0], dict):
                    getattr(shop, action)(*told)
                    past = past[:-1] if action == "undo" else past + [(things, wishes)]
                    things, wishes = found
                    met.add(action)
                else:
                    with self.assertRaises(found[0]) as error:
                        getattr(shop, action)(*told)
                    self.assertEqual(getattr(error.exception, "given", getattr(error.exception, "index", None)), found[1])
                    met.add(found[0])
                self.assertEqual((shop.names, shop.wishes, len(shop)), (tuple(sorted(things)), wishes, len(past)))
                self.assertEqual({name: shop.named(name) for name in shop.names}, things)
                self.assertTrue(all(self.does_hold(wish, things) for wish in shop.wishes))
        self.assertEqual(met, {"put", "drop", "wish", "lift", "undo", Broken, InUse, UnknownName, InvalidIndex, NothingToUndo})


if __name__ == "__main__":
    unittest.main()
