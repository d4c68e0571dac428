"""Refused arguments: each function, each argument, one wrong one and several at once."""

import unittest

from steamlinks import angles, pistons, places, ports, regions, valves
from steamlinks import errors
from tests.samples import GREAT


class Grumpy:
    """Not to be compared with anything."""

    def __eq__(self, other):
        raise AssertionError("compared")

    __hash__ = None


def nested(value, deep):
    for _ in range(deep):
        value = (value,)
    return value


# What is none of any kind of argument.
STRANGE = (
    None, True, False, "", "x", "1", b"", b"head", (), [], {}, {"head": 1}, {1, 2}, frozenset((1,)), object(), Grumpy(), len, int,
    range(3), 1j, [1, 0], [None], (None,), (True,), ((),), nested(1, 14), nested((1, 0), 13), [[1, 0]], slice(1, 2), Ellipsis,
    ValueError("x"), lambda: 1, bytearray(b"a"),
)
WHOLE = (0, 1, -1, 2, 3, 4, 5, GREAT, -GREAT)
PAIRS = ((1, 0), (0, 1), (-1, 0), (1, 1), (3, 2), (1, 2), (0, 0), (2, 4), (0, -1), (-1, 2), (2, 0), (1, -1), (2, 1))
BROKEN_PAIRS = (
    (1,), (1, 2, 3), [1, 2], (True, 1), (1, True), (False, 1), (1, None), (None, 1), ("1", "2"), "12", ((1, 2),), ((1,), 2),
    (1, (2,)), (1, [2]), {1: 2}, (1, 1j), range(1, 3),
)
FRONT = (1, 0, 1, 0)
SLIDE = (1, (3, 4), (3, 0, 3, 0), 2)
SIDE = ("side", (3, 4), 3)
BAD_TREES = (
    (), ("none",), ("all", 1), ["all"], ("not",), ("not", ()), ("and", ()), ("or", [SIDE]), ("and", (SIDE,) * 9),
    ("or", (("all",),) * 9), ("side", (3, 4)), ("side", (3, 4), True), ("side", [3, 4], 3), ("side", (3, 4, 5), 3),
    ("not", ("not", ("not", ("not", ("not", ("not", ("all",))))))), ("not", SIDE, SIDE), ("and", SIDE),
    ("and", (("and", (SIDE,) * 8),) * 3 + (SIDE,)), ("or", (("or", (SIDE,) * 5),) * 5), nested(SIDE, 11), (Grumpy(),),
    ("side", Grumpy(), 1), ("not", Grumpy()), ("and", (Grumpy(),)), "all", ("All",), ("or", (SIDE, None)),
)

BAD = {
    "form": (errors.InvalidForm, (0, 4, -1, -3, GREAT) + PAIRS[:3] + ((1,), [1], "3")),
    "vector": (errors.InvalidVector, WHOLE[:3] + BROKEN_PAIRS),
    "level": (errors.InvalidNumber, ("3", (3,), [3], b"3") + PAIRS[:3]),
    "way": (errors.InvalidWay, WHOLE[:3] + BROKEN_PAIRS + ((0, 0), (2, 4), (2, 0), (0, -2), (0, 3), (-3, -3), (GREAT, 5))),
    "turn": (errors.InvalidTurn, WHOLE[:3] + BROKEN_PAIRS + (
        (0, 0), (2, 4), (2, 0), (0, -1), (0, 2), (-1, 0), (-1, 2), (-3, -1), (3, 3), (GREAT, -5),
    )),
    "angle": (errors.InvalidAngle, WHOLE[:3] + PAIRS[:2] + (
        [1, 3, 4, 3], (1, 3, 4), (1, 3, 4, 3, 0), (3, 4, 3), (0, 3, 4, 3), (4, 3, 4, 3), (True, 3, 4, 3), (1, True, 4, 3),
        (1, 3, 4, True), (1, 3, False, 1), (1, 3, 4, 5), (1, 3, 4, -5), (1, 3, 4, 6), (1, 6, 8, 6), (1, 0, 2, 0),
        (1, 0, 0, 0), (2, 0, 0, 1), (2, 1, 2, 3), (3, 1, 1, 2), (3, 1, 1, -2), (1, (3, 4), 3), ((1, 3, 4, 3),), "1343",
        (1, 3, None, 3), ("1", 3, 4, 3), (1, 3, 4, "3"), (1, [3], 4, 3), (1, GREAT, 0, GREAT), (1, Grumpy(), 4, 3),
    )),
    "region": (errors.InvalidRegion, WHOLE[:3] + PAIRS + (
        (1,), (1, SIDE, SIDE), [1, SIDE], SIDE, ("all",), (0, SIDE), (4, SIDE), (True, SIDE), ("1", SIDE), (None, SIDE),
        (SIDE, 1), FRONT, SLIDE, ((1, SIDE),),
    ) + tuple((1, tree) for tree in BAD_TREES)),
    "valve": (errors.InvalidValve, WHOLE[:3] + PAIRS[:3] + (
        FRONT, list(SLIDE), SLIDE[:3], SLIDE + (1,), (0,) + SLIDE[1:], (4,) + SLIDE[1:], (True,) + SLIDE[1:],
        (1, [3, 4], (3, 0, 3, 0), 2), (1, (3, 4), [3, 0, 3, 0], 2), (1, (3, 4, 0), (3, 0, 3, 0), 2),
        (1, (3, 4), (3, 0, 3), 2), (1, (3, 4), (3, 0, 3, 0), 0), (1, (3, 4), (3, 0, 3, 0), -2),
        (1, (3, 4), (3, 0, 3, 0), True), (1, (3, 4), (3, False, 3, 0), 2), (1, (True, 4), (3, 0, 3, 0), 2),
        (1, (6, 8), (6, 0, 6, 0), 4), (1, (0, 0), (0, 0, 0, 0), 2), (1, Grumpy(), (3, 0, 3, 0), 2), (SLIDE,),
    )),
    "laps": (errors.InvalidLaps, WHOLE[:3] + PAIRS[:3] + (
        (1, 2, 3), (1, 2, 3, 4, 5), [3, 0, 3, 0], (True, 0, 3, 0), (3, 0, 3, False), (3, 0, None, 0), ((3, 0), (3, 0)),
        "3030", (3, 0, (3,), 0), range(4), (3, 0, 3, Grumpy()),
    )),
    "port": (errors.InvalidPort, (0, -1, -GREAT, (2,), [2], "2", (2, 1))),
    "end": (errors.InvalidEnd, (0, 1, "Head", "HEAD", "heads", "hea", "head ", "both", "steam", ("head",), ["crank"], "head crank")),
    "state": (errors.InvalidWord, (0, 1, "Steam", "open", "steam ", "head", "cutoff", ("steam",), ["steam"], b"steam")),
    "event": (errors.InvalidWord, (0, 1, "Cutoff", "cut-off", "steam", "cutoff ", ("cutoff",), ["cutoff"], b"cutoff", "head")),
    "ratio": (errors.InvalidRatio, WHOLE[:3] + BROKEN_PAIRS + (
        (0, 0), (1, 0), (0, 2), (2, 4), (2, 2), (-1, 2), (3, 2), (2, 1), (-1, 1), (1, -1), (1, -2), (-1, -2), (0, -1),
    )),
    "rod": (errors.InvalidRod, WHOLE[:5] + BROKEN_PAIRS + (
        (1, 1), (1, 2), (0, 1), (-2, 1), (2, -1), (2, 0), (1, 0), (-1, 0), (4, 2), (-3, -1), (GREAT, GREAT + 1), "None", (2, 1, 1),
    )),
    "share": (errors.InvalidShare, WHOLE[:3] + BROKEN_PAIRS + (
        (0, 1), (1, 1), (2, 1), (3, 2), (-1, 2), (1, -2), (-1, -2), (2, 4), (0, 2), (0, 0), (1, 0), (GREAT + 1, GREAT),
    )),
    "stroke": (errors.InvalidStroke, (0, 1, "Out", "outs", "forth", "out ", ("out",), ["back"], b"out")),
}
BAD["long rod"] = BAD["rod"]
for kind in BAD:
    # An endless rod is one, a level and a port may be whole.
    BAD[kind] = (BAD[kind][0], tuple(v for v in STRANGE if not (kind == "rod" and v is None)) + BAD[kind][1])

OTHERS = {"other turn": "turn", "other angle": "angle", "other region": "region", "low": "angle", "high": "angle"}
GOOD = {
    "form": 1, "vector": (3, 4), "level": 3, "way": (3, 4), "turn": (2, 1), "angle": (1, 3, 4, 3), "region": (1, SIDE),
    "valve": SLIDE, "laps": (3, 0, 3, 0), "port": 2, "end": "crank", "state": "both", "event": "cutoff", "ratio": (1, 2),
    "rod": (5, 1), "long rod": (5, 1), "share": (1, 3), "stroke": "back",
}
# Each function with the names and the kinds of its arguments, in the order of the signature.
FUNCTIONS = (
    (angles.angle_of, (("form",), ("vector",), ("level",))),
    (angles.falling_angle, (("form",), ("vector",), ("level",))),
    (angles.way_angle, (("form",), ("way",))),
    (places.as_way, (("angle",),)),
    (places.side_at, (("angle",), ("vector",), ("level",))),
    (places.is_same_place, (("angle",), ("other", "angle"))),
    (places.is_before, (("angle",), ("other", "angle"))),
    (places.is_between, (("angle",), ("low", "angle"), ("high", "angle"))),
    (places.way_between, (("low", "angle"), ("high", "angle"))),
    (places.opposite_angle, (("angle",),)),
    (places.mirrored_angle, (("angle",),)),
    (places.turned_angle, (("angle",), ("turn",))),
    (places.turned, (("form",), ("vector",), ("turn",))),
    (places.turn_sum, (("form",), ("turn",), ("other", "turn"))),
    (places.turn_back, (("turn",),)),
    (regions.holds, (("region",), ("angle",))),
    (regions.cuts, (("region",),)),
    (regions.arcs, (("region",),)),
    (regions.is_never, (("region",),)),
    (regions.is_always, (("region",),)),
    (regions.lies_within, (("region",), ("other", "region"))),
    (regions.is_same_region, (("region",), ("other", "region"))),
    (regions.some_angle, (("region",),)),
    (regions.parting_angle, (("region",), ("other", "region"))),
    (regions.opposite_region, (("region",),)),
    (regions.turned_region, (("region",), ("turn",))),
    (valves.valve_of, (("form",), ("vector",), ("laps",), ("port",))),
    (valves.state_at, (("valve",), ("end",), ("angle",))),
    (valves.state_region, (("valve",), ("end",), ("state",))),
    (valves.events, (("valve",),)),
    (valves.event_angle, (("valve",), ("end",), ("event",))),
    (valves.leads, (("valve",),)),
    (valves.blows, (("valve",), ("end",))),
    (valves.reversed_valve, (("valve",),)),
    (valves.exchanged_valve, (("valve",),)),
    (valves.turned_valve, (("valve",), ("turn",))),
    (ports.compare_opening, (("valve",), ("end",), ("angle",), ("ratio",))),
    (ports.compare_greatest, (("valve",), ("end",), ("ratio",))),
    (ports.wide_region, (("valve",), ("end",), ("ratio",))),
    (ports.greatest_way, (("valve",), ("end",))),
    (pistons.share_angle, (("form",), ("rod",), ("share",), ("stroke",))),
    (pistons.compare_share, (("rod",), ("angle",), ("share",))),
    (pistons.compare_for_rods, (("rod", "long rod"), ("angle",), ("share",))),
    (pistons.compare_event, (("valve",), ("rod",), ("end",), ("event",), ("share",))),
    (pistons.compare_pistons, (("angle",), ("other", "angle"))),
    (pistons.compare_cutoffs, (("valve",),)),
)
# What is told with "last": the function, good arguments, those whose form may be another one.
UNLIKES = (
    (places.is_same_place, ("angle", "other")), (places.is_before, ("angle", "other")),
    (places.is_between, ("angle", "low", "high")), (places.way_between, ("low", "high")),
    (regions.holds, ("region", "angle")), (regions.lies_within, ("region", "other")),
    (regions.is_same_region, ("region", "other")), (regions.parting_angle, ("region", "other")),
    (valves.state_at, ("valve", "angle")), (ports.compare_opening, ("valve", "angle")),
    (pistons.compare_pistons, ("angle", "other")),
)
OF_OTHER_FORM = {"angle": (2, 3, 4, 3), "region": (2, SIDE), "valve": (2,) + SLIDE[1:]}


def good_arguments(names):
    return {told[0]: GOOD[told[-1]] for told in names}


class Refusals(unittest.TestCase):
    def check_refused(self, function, arguments, error, given, message):
        for call in (lambda: function(**arguments), lambda: function(*arguments.values())):
            try:
                answer = call()
            except errors.SteamError as found:
                self.assertIs(type(found), error, message)
                self.assertIs(found.given, given, message)
            else:
                self.fail(f"{message}: no error but {answer!r}")

    def test_all_good(self):
        for function, names in FUNCTIONS:
            function(**good_arguments(names))
            function(*good_arguments(names).values())

    def test_one_wrong_argument(self):
        for function, names in FUNCTIONS:
            for told in names:
                error, values = BAD[told[-1]]
                for index, value in enumerate(values):
                    arguments = good_arguments(names)
                    arguments[told[0]] = value
                    self.check_refused(function, arguments, error, value, (function.__name__, told, index))

    def test_two_wrong_arguments_and_more(self):
        for function, names in FUNCTIONS:
            for first in range(len(names)):
                error, values = BAD[names[first][-1]]
                for value in values[::5]:
                    for second in range(first + 1, len(names)):
                        for worse in BAD[names[second][-1]][1][::7]:
                            arguments = good_arguments(names)
                            arguments[names[first][0]], arguments[names[second][0]] = value, worse
                            self.check_refused(function, arguments, error, value, (function.__name__, first, second))
                    arguments = good_arguments(names)
                    for told in names[first:]:
                        arguments[told[0]] = value if told == names[first] else object()
                    self.check_refused(function, arguments, error, value, (function.__name__, first, "all"))

    def kinds_of(self, function):
        return {told[0]: told[-1] for told in dict(FUNCTIONS)[function]}

    def test_another_form(self):
        for function, parts in UNLIKES:
            kinds = self.kinds_of(function)
            for part in parts[1:]:
                arguments = good_arguments(dict(FUNCTIONS)[function])
                arguments[part] = OF_OTHER_FORM[kinds[part]]
                self.check_refused(function, arguments, errors.Unlike, arguments[part], (function.__name__, part))
            # With the first one of another form, it is the next one that is unlike.
            arguments = good_arguments(dict(FUNCTIONS)[function])
            arguments[parts[0]] = OF_OTHER_FORM[kinds[parts[0]]]
            self.check_refused(function, arguments, errors.Unlike, arguments[parts[1]], (function.__name__, "first"))

    def test_three_angles_of_other_forms(self):
        one, two, three = (1, 3, 4, 3), (2, 3, 4, 3), (3, 3, 4, 3)
        for told, given in (
            ((one, two, three), two), ((one, two, one), two), ((one, one, two), two), ((one, two, two), two), ((one, one, three), three),
        ):
            arguments = dict(zip(("angle", "low", "high"), told))
            self.check_refused(places.is_between, arguments, errors.Unlike, given, told)

    def test_another_form_is_told_last(self):
        for function, parts in UNLIKES:
            kinds = self.kinds_of(function)
            for told in dict(FUNCTIONS)[function]:
                error, values = BAD[told[-1]]
                for value in values[::4]:
                    arguments = good_arguments(dict(FUNCTIONS)[function])
                    for part in parts[1:]:
                        arguments[part] = OF_OTHER_FORM[kinds[part]]
                    arguments[told[0]] = value
                    self.check_refused(function, arguments, error, value, (function.__name__, told, "before last"))

    def test_no_angle_is_told_last(self):
        for function in (angles.angle_of, angles.falling_angle):
            for name, (error, values) in (("form", BAD["form"]), ("vector", BAD["vector"]), ("level", BAD["level"])):
                for value in values:
                    arguments = {"form": 1, "vector": (3, 4), "level": 5}
                    arguments[name] = value
                    self.check_refused(function, arguments, error, value, (function.__name__, name))

    def test_questions_of_any_value(self):
        for question, kind in (
            (angles.is_angle, "angle"), (angles.is_turn, "turn"), (regions.is_region, "region"), (valves.is_valve, "valve"),
        ):
            for value in BAD[kind][1]:
                self.assertIs(question(value), False)
                self.assertIs(question(value=value), False)
            self.assertIs(question(GOOD[kind]), True)

    def test_endless_rods(self):
        self.assertEqual(pistons.compare_share(None, FRONT, (1, 2)), -1)
        self.check_refused(
            pistons.compare_for_rods, {"rod": None, "angle": (2, 0, 0, 0), "share": (1, 2)}, errors.InvalidRod, None, "endless",
        )

    def test_every_function_of_the_interface_is_here(self):
        told = {function.__name__ for function, _ in FUNCTIONS} | {"is_angle", "is_turn", "is_region", "is_valve"}
        from tests.test_language import INTERFACE
        self.assertEqual(told, {name for names in INTERFACE.values() for name in names} - set(INTERFACE["errors"]))


if __name__ == "__main__":
    unittest.main()
