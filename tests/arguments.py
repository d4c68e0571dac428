"""Arguments of all kinds, wrong ones and good ones, and the functions that take them."""

from steamlinks import alike, angles, certificates, engines, errors, fits, knots, links, looks, notches, pistons, places, polynomials
from steamlinks import ports, regions, riders, settings, valves, zones
from tests.samples import GREAT


class Grumpy:
    """Not to be compared with anything."""

    def __eq__(self, other):
        raise AssertionError("compared")

    __hash__ = None


def nested(value, deep):
    for _ in range(deep):
        value = (value,)
    return value


# What is none of any kind of argument.
STRANGE = (
    None, True, False, "", "x", "1", b"", b"head", (), [], {}, {"head": 1}, {1, 2}, frozenset((1,)), object(), Grumpy(), len, int,
    range(3), 1j, [1, 0], [None], (None,), (True,), ((),), nested(1, 14), nested((1, 0), 13), [[1, 0]], slice(1, 2), Ellipsis,
    ValueError("x"), lambda: 1, bytearray(b"a"),
)
WHOLE = (0, 1, -1, 2, 3, 4, 5, GREAT, -GREAT)
PAIRS = ((1, 0), (0, 1), (-1, 0), (1, 1), (3, 2), (1, 2), (0, 0), (2, 4), (0, -1), (-1, 2), (2, 0), (1, -1), (2, 1))
BROKEN_PAIRS = (
    (1,), (1, 2, 3), [1, 2], (True, 1), (1, True), (False, 1), (1, None), (None, 1), ("1", "2"), "12", ((1, 2),), ((1,), 2),
    (1, (2,)), (1, [2]), {1: 2}, (1, 1j), range(1, 3),
)
FRONT = (1, 0, 1, 0)
SLIDE = (1, (3, 4), (3, 0, 3, 0), 2)
SIDE = ("side", (3, 4), 3)
BAD_TREES = (
    (), ("none",), ("all", 1), ["all"], ("not",), ("not", ()), ("and", ()), ("or", [SIDE]), ("and", (SIDE,) * 9),
    ("or", (("all",),) * 9), ("side", (3, 4)), ("side", (3, 4), True), ("side", [3, 4], 3), ("side", (3, 4, 5), 3),
    ("not", ("not", ("not", ("not", ("not", ("not", ("all",))))))), ("not", SIDE, SIDE), ("and", SIDE),
    ("and", (("and", (SIDE,) * 8),) * 3 + (SIDE,)), ("or", (("or", (SIDE,) * 5),) * 5), nested(SIDE, 11), (Grumpy(),),
    ("side", Grumpy(), 1), ("not", Grumpy()), ("and", (Grumpy(),)), "all", ("All",), ("or", (SIDE, None)),
)

BROKEN_RATIOS = ((0, 0), (1, 0), (0, 2), (2, 4), (2, 2), (1, -1), (1, -2), (-1, -2), (0, -1), (-2, 0), (GREAT, 2), (3, -GREAT))
BROKEN_KNOTS = (
    ((1, 0, 1), 0), ((-2, 0, 1), 2), ((-2, 0, 1), -1), ((-2, 0, 1), True), ((-2, 0, 1), None), ((4, 0, -4, 0, 1), 0), ((-4, 0, 2), 0),
    ((2, 0, -1), 0), ((), 0), ((1,), 0), ((-1, 2), 0), ((-1, 0, 1), 0), ((2, -4, -1, 2), 0), ([-2, 0, 1], 0), ((-2, 0, 1),), ((-2, 0, 1), 0, 0),
    [(-2, 0, 1), 0], ((-2, False, 1), 0), ((-2, 0, 1), (0,)), (((-2, 0, 1), 0),), ((-2, 0, Grumpy()), 0), ((-2, 0, 1), Grumpy()), (0, (-2, 0, 1)),
)
LINK = (1, (0, 4), (3, 0), (0, 0), (1, 0, 1, 0), 1)
STRETCH = ((-1, 1), True, (1, 1), True)
CYLINDER = ((2, 1), 3, SLIDE)
GEAR = ((2, 1), 3, LINK)
LOOK = (FRONT, "head")
WRONG = ("moved", (1, 2))
SIGHTING = ((-1, 3), "crank", "release", (2, 1))
BAD_WRONGS = (
    ("right", 1), ("right", (1, 1)), ("Right",), ("rigth",), ("opposite", (1, 1)), ("moved",), ("moved", (2, 4)), ("moved", (1, 0)),
    ("moved", 1), ("moved", (1, -2)), ("moved", (1, 1), 1), ("moved", [1, 1]), ("moved", None), ("slipped",), ("slipped", (0, -1)),
    ("slipped", (-1, 1)), ("slipped", (2, 2)), ("slipped", (1, 1), (1, 1)), ("thrown",), ("thrown", (0, 1)), ("thrown", (-1, 1)),
    ("thrown", (2, 4)), ("thrown", (True, 1)), ("turned", (1, 1)), ["right"], ["moved", (1, 1)], "right", ("right ",), (b"right",),
    (("right",),), (Grumpy(),), ("moved", Grumpy()), (Grumpy(), (1, 1)), ("slipped", Grumpy()), ("", (1, 1)), (None, (1, 1)), (1,),
)
BAD_LOOKS = (
    FRONT, (FRONT,), (FRONT, "Head"), (FRONT, "head", "head"), [FRONT, "head"], ("head", FRONT), (FRONT, None), (FRONT, ("head",)),
    (list(FRONT), "head"), ((2, 0, 1, 0), "head"), ((3, 1, 0, 0), "crank"), ((1, 3, 4, 5), "head"), ((1, 2, 0, 0), "head"),
    (Grumpy(), "head"), (FRONT, Grumpy()), ((True, 0, 1, 0), "head"), (None, "head"), (LOOK, "closed"), (0, 1, 0),
)
BAD_FINDINGS = (
    LOOK, (LOOK,), (LOOK, "open"), (LOOK, "steam", "steam"), [LOOK, "steam"], ("steam", LOOK), (LOOK, None), (LOOK, ("steam",)),
    (list(LOOK), "steam"), (LOOK, Grumpy()), (Grumpy(), "steam"), (((2, 0, 1, 0), "head"), "steam"), ((FRONT, "heads"), "steam"),
    (FRONT, "steam"), (LOOK, "head"),
)
BAD_SIGHTINGS = (
    SIGHTING[:3], SIGHTING + (1,), list(SIGHTING), ((2, 1),) + SIGHTING[1:], ((-3, 2),) + SIGHTING[1:], ((2, 4),) + SIGHTING[1:],
    (((-1, 0, 2), 1),) + SIGHTING[1:], (1,) + SIGHTING[1:], ((-1, 3), "Crank", "release", (2, 1)), ((-1, 3), None, "release", (2, 1)),
    ((-1, 3), "crank", "steam", (2, 1)), ((-1, 3), "crank", "Release", (2, 1)), ((-1, 3), "crank", None, (2, 1)),
    ((-1, 3), "release", "crank", (2, 1)), ((-1, 3), "crank", "release", (0, -1)), ((-1, 3), "crank", "release", (-2, 1)),
    ((-1, 3), "crank", "release", (2, 2)), ((-1, 3), "crank", "release", [2, 1]), ((-1, 3), "crank", "release", None),
    ((-1, 3), "crank", "release", (True, 1)), (Grumpy(), "crank", "release", (2, 1)), ((-1, 3), Grumpy(), "release", (2, 1)),
    ((-1, 3), "crank", Grumpy(), (2, 1)), ((-1, 3), "crank", "release", Grumpy()), ((2, 1), "crank", "release", (-1, 3)),
)


def spoilt_rows(good, bad, most):
    """Tuples with a bad element, or one too many, and the index that is told of each."""
    rows = [((value,), 0) for value in bad] + [((good, value), 1) for value in bad[::2]]
    rows += [((good,) * (most - 1) + (bad[0],), most - 1), ((good,) * (most + 1), most), ((good,) * (most + 3), most)]
    rows += [((good,) * most + (bad[0],), most), ((good, bad[0], bad[-1]), 1), ((bad[0],) * (most + 1), 0), ((good, None, good), 1)]
    return tuple(rows) + (([good], None), ([], None), ("good", None), ({0: good}, None), (None, None))

BAD = {
    "form": (errors.InvalidForm, (0, 4, -1, -3, GREAT) + PAIRS[:3] + ((1,), [1], "3")),
    "vector": (errors.InvalidVector, WHOLE[:3] + BROKEN_PAIRS),
    "level": (errors.InvalidNumber, ("3", (3,), [3], b"3") + PAIRS[:3]),
    "way": (errors.InvalidWay, WHOLE[:3] + BROKEN_PAIRS + ((0, 0), (2, 4), (2, 0), (0, -2), (0, 3), (-3, -3), (GREAT, 5))),
    "turn": (errors.InvalidTurn, WHOLE[:3] + BROKEN_PAIRS + (
        (0, 0), (2, 4), (2, 0), (0, -1), (0, 2), (-1, 0), (-1, 2), (-3, -1), (3, 3), (GREAT, -5),
    )),
    "angle": (errors.InvalidAngle, WHOLE[:3] + PAIRS[:2] + (
        [1, 3, 4, 3], (1, 3, 4), (1, 3, 4, 3, 0), (3, 4, 3), (0, 3, 4, 3), (4, 3, 4, 3), (True, 3, 4, 3), (1, True, 4, 3),
        (1, 3, 4, True), (1, 3, False, 1), (1, 3, 4, 5), (1, 3, 4, -5), (1, 3, 4, 6), (1, 6, 8, 6), (1, 0, 2, 0),
        (1, 0, 0, 0), (2, 0, 0, 1), (2, 1, 2, 3), (3, 1, 1, 2), (3, 1, 1, -2), (1, (3, 4), 3), ((1, 3, 4, 3),), "1343",
        (1, 3, None, 3), ("1", 3, 4, 3), (1, 3, 4, "3"), (1, [3], 4, 3), (1, GREAT, 0, GREAT), (1, Grumpy(), 4, 3),
    )),
    "region": (errors.InvalidRegion, WHOLE[:3] + PAIRS + (
        (1,), (1, SIDE, SIDE), [1, SIDE], SIDE, ("all",), (0, SIDE), (4, SIDE), (True, SIDE), ("1", SIDE), (None, SIDE),
        (SIDE, 1), FRONT, SLIDE, ((1, SIDE),),
    ) + tuple((1, tree) for tree in BAD_TREES)),
    "valve": (errors.InvalidValve, WHOLE[:3] + PAIRS[:3] + (
        FRONT, list(SLIDE), SLIDE[:3], SLIDE + (1,), (0,) + SLIDE[1:], (4,) + SLIDE[1:], (True,) + SLIDE[1:],
        (1, [3, 4], (3, 0, 3, 0), 2), (1, (3, 4), [3, 0, 3, 0], 2), (1, (3, 4, 0), (3, 0, 3, 0), 2),
        (1, (3, 4), (3, 0, 3), 2), (1, (3, 4), (3, 0, 3, 0), 0), (1, (3, 4), (3, 0, 3, 0), -2),
        (1, (3, 4), (3, 0, 3, 0), True), (1, (3, 4), (3, False, 3, 0), 2), (1, (True, 4), (3, 0, 3, 0), 2),
        (1, (6, 8), (6, 0, 6, 0), 4), (1, (0, 0), (0, 0, 0, 0), 2), (1, Grumpy(), (3, 0, 3, 0), 2), (SLIDE,),
    )),
    "laps": (errors.InvalidLaps, WHOLE[:3] + PAIRS[:3] + (
        (1, 2, 3), (1, 2, 3, 4, 5), [3, 0, 3, 0], (True, 0, 3, 0), (3, 0, 3, False), (3, 0, None, 0), ((3, 0), (3, 0)),
        "3030", (3, 0, (3,), 0), range(4), (3, 0, 3, Grumpy()),
    )),
    "port": (errors.InvalidPort, (0, -1, -GREAT, (2,), [2], "2", (2, 1))),
    "end": (errors.InvalidEnd, (0, 1, "Head", "HEAD", "heads", "hea", "head ", "both", "steam", ("head",), ["crank"], "head crank")),
    "state": (errors.InvalidWord, (0, 1, "Steam", "open", "steam ", "head", "cutoff", ("steam",), ["steam"], b"steam")),
    "event": (errors.InvalidWord, (0, 1, "Cutoff", "cut-off", "steam", "cutoff ", ("cutoff",), ["cutoff"], b"cutoff", "head")),
    "ratio": (errors.InvalidRatio, WHOLE[:3] + BROKEN_PAIRS + (
        (0, 0), (1, 0), (0, 2), (2, 4), (2, 2), (-1, 2), (3, 2), (2, 1), (-1, 1), (1, -1), (1, -2), (-1, -2), (0, -1),
    )),
    "rod": (errors.InvalidRod, WHOLE[:5] + BROKEN_PAIRS + (
        (1, 1), (1, 2), (0, 1), (-2, 1), (2, -1), (2, 0), (1, 0), (-1, 0), (4, 2), (-3, -1), (GREAT, GREAT + 1), "None", (2, 1, 1),
    )),
    "share": (errors.InvalidShare, WHOLE[:3] + BROKEN_PAIRS + (
        (0, 1), (1, 1), (2, 1), (3, 2), (-1, 2), (1, -2), (-1, -2), (2, 4), (0, 2), (0, 0), (1, 0), (GREAT + 1, GREAT),
    )),
    "polynomial": (errors.InvalidPolynomial, WHOLE[:3] + (
        (0,), (1, 0), (0, 0), [1, 2], (True,), (1, True), (1, False, 2), (None, 1), ("1",), "12", (1, (2,)), ((1, 2),), (1, 2, 0), {1: 2},
        range(1, 3), (1, Grumpy()), (Grumpy(), 1), ((-2, 0, 1), 1), b"12",
    )),
    "any ratio": (errors.InvalidRatio, WHOLE[:3] + BROKEN_PAIRS + BROKEN_RATIOS),
    "bound": (errors.InvalidRatio, WHOLE[:3] + BROKEN_PAIRS + BROKEN_RATIOS + ("None",)),
    "positive ratio": (errors.InvalidRatio, WHOLE[:3] + BROKEN_PAIRS + BROKEN_RATIOS + ((0, 1), (-1, 1), (-1, 2), (-GREAT, 1))),
    "point": (errors.InvalidPoint, WHOLE[:3] + BROKEN_PAIRS + BROKEN_RATIOS + BROKEN_KNOTS),
    "link": (errors.InvalidLink, WHOLE[:3] + PAIRS[:3] + (
        SLIDE, LINK[:5], LINK + (1,), list(LINK), (0,) + LINK[1:], (4,) + LINK[1:], (True,) + LINK[1:], LINK[:5] + (0,), LINK[:5] + (-1,),
        LINK[:5] + (True,), (1, (0, 4, 0), (3, 0), (0, 0), (1, 0, 1, 0), 1), (1, (0, 4), [3, 0], (0, 0), (1, 0, 1, 0), 1),
        (1, (0, 4), (3, 0), (0, False), (1, 0, 1, 0), 1), (1, (0, 4), (3, 0), (0, 0), (1, 0, 1), 1), (LINK,),
        (1, (0, 8), (6, 0), (0, 0), (2, 0, 2, 0), 2), (1, (0, 4), (3, 0), (0, 0), [1, 0, 1, 0], 1),
        (1, (0, 0), (0, 0), (0, 0), (0, 0, 0, 0), 2), (1, Grumpy(), (3, 0), (0, 0), (1, 0, 1, 0), 1), (1, (0, 4), (3, 0), (0, 0), (1, 0, 1, 0), None),
    )),
    "notch": (errors.InvalidNotch, WHOLE[:3] + BROKEN_PAIRS + BROKEN_RATIOS + (
        (2, 1), (-2, 1), (3, 2), (-3, 2), (GREAT + 1, GREAT), (-GREAT - 1, GREAT), (GREAT, 1), ((-1, 0, 2), 1),
    )),
    "lot": (errors.InvalidLot, WHOLE[:3] + PAIRS[:3] + (
        STRETCH, [STRETCH], (list(STRETCH),), (STRETCH, STRETCH), (STRETCH[:3],), (STRETCH + (True,),), (((-1, 1), 1, (1, 1), True),),
        (((-1, 1), True, (1, 1), 0),), (((1, 1), True, (-1, 1), True),), (((0, 1), True, (0, 1), False),), (((-2, 1), True, (0, 1), True),),
        (((0, 1), True, (2, 1), False),), (((0, 1), True, ((-2, 0, 1), 1), False),), (((2, 4), True, (1, 1), True),), ((-1, True, 1, True),),
        (((-1, 1), True, (0, 1), False), ((0, 1), True, (1, 1), True)), (((0, 1), True, (1, 1), True), ((-1, 1), True, (-1, 2), True)),
        (((-1, 1), True, (1, 1), Grumpy()),), ((Grumpy(), True, (1, 1), True),), (((-1, 1), True, ((-1, 0, 1), 1), True),), (STRETCH, None),
    )),
    "engine": (errors.InvalidEngine, WHOLE[:3] + PAIRS[:3] + (
        SLIDE, LINK, FRONT, (1, ()), (1, (CYLINDER,) * 5), [1, (CYLINDER,)], (1, [CYLINDER]), (1, CYLINDER), (1, (list(CYLINDER),)), (CYLINDER,),
        (0, (CYLINDER,)), (4, (CYLINDER,)), (True, (CYLINDER,)), (2, (CYLINDER,)), (1, (CYLINDER,), 1), (1,), (None, (CYLINDER,)),
        (1, (CYLINDER[:2],)), (1, (CYLINDER + (1,),)), (1, (((2, 2), 1, SLIDE),)), (1, (((0, -1), 1, SLIDE),)), (1, (([1, 0], 1, SLIDE),)),
        (1, (((1, 0), 0, SLIDE),)), (1, (((1, 0), -1, SLIDE),)), (1, (((1, 0), True, SLIDE),)), (1, (((1, 0), (1, 1), SLIDE),)),
        (1, (((1, 0), None, SLIDE),)), (1, (((1, 0), 1, list(SLIDE)),)), (1, (((1, 0), 1, (2,) + SLIDE[1:]),)), (1, (((1, 0), 1, LINK),)),
        (1, (((1, 0), 1, (1, (6, 8), (6, 0, 6, 0), 4)),)), (1, (CYLINDER, ((1, 1), 1, (3,) + SLIDE[1:]))), (1, (CYLINDER, None)),
        (1, (CYLINDER, ((1, 1), 0, SLIDE))), (1, (((1, 0), Grumpy(), SLIDE),)), (1, ((Grumpy(), 1, SLIDE),)), (1, (((1, 0), 1, Grumpy()),)),
    )),
    "sense": (errors.InvalidSense, (0, 2, -2, 3, GREAT, (1,), [1], (1, 1), "1", "-1", "forward", "backward")),
    "stroke": (errors.InvalidStroke, (0, 1, "Out", "outs", "forth", "out ", ("out",), ["back"], b"out")),
}
BAD["geared"] = (errors.InvalidGeared, WHOLE[:3] + PAIRS[:3] + (
    SLIDE, LINK, FRONT, (1, ()), (1, (GEAR,) * 3), [1, (GEAR,)], (1, [GEAR]), (1, GEAR), (1, (list(GEAR),)), (GEAR,), (0, (GEAR,)), (4, (GEAR,)),
    (True, (GEAR,)), (2, (GEAR,)), (1, (GEAR,), 1), (1,), (None, (GEAR,)), (1, (GEAR[:2],)), (1, (GEAR + (1,),)), (1, (CYLINDER,)),
    (1, (((2, 2), 1, LINK),)), (1, (((0, -1), 1, LINK),)), (1, (([1, 0], 1, LINK),)), (1, (((1, 0), 0, LINK),)), (1, (((1, 0), -1, LINK),)),
    (1, (((1, 0), True, LINK),)), (1, (((1, 0), (1, 1), LINK),)), (1, (((1, 0), None, LINK),)), (1, (((1, 0), 1, list(LINK)),)),
    (1, (((1, 0), 1, (2,) + LINK[1:]),)), (1, (((1, 0), 1, SLIDE),)), (1, (GEAR, ((1, 1), 1, (3,) + LINK[1:]))), (1, (GEAR, None)),
    (1, (GEAR, ((1, 1), 0, LINK))), (1, (((1, 0), Grumpy(), LINK),)), (1, ((Grumpy(), 1, LINK),)), (1, (((1, 0), 1, Grumpy()),)),
    (1, (GEAR, GEAR, GEAR, GEAR)), (1, (GEAR, CYLINDER)),
))
BAD["wrong"] = (errors.InvalidWrong, WHOLE[:3] + PAIRS[:3] + BAD_WRONGS)
BAD["look"] = (errors.InvalidLook, WHOLE[:3] + PAIRS[:3] + BAD_LOOKS)
BAD["high notch"] = (errors.InvalidNotch, BAD["notch"][1] + ((-1, 3), (-1, 2), (-1, 1), (-GREAT, GREAT + 1)))
BAD["long rod"] = BAD["rod"]
BAD["rider"], BAD["other point"] = BAD["vector"], BAD["point"]
# What is strange elsewhere, and good here: an endless rod, no bound, polynomials, lots and looks that are ().
AT_HOME = {"rod": None, "bound": None, "polynomial": (), "lot": (), "looks": (), "findings": ()}


def is_at_home(kind, value):
    return kind in AT_HOME and type(value) is type(AT_HOME[kind]) and value == AT_HOME[kind]


# From here on each bad value stands beside what the error keeps: the value, or an index.
for kind in BAD:
    BAD[kind] = (BAD[kind][0], tuple((v, v) for v in tuple(v for v in STRANGE if not is_at_home(kind, v)) + BAD[kind][1]))
for kind, error, good, bad, most in (
    ("wrongs", errors.InvalidWrongs, WRONG, BAD_WRONGS, 6), ("looks", errors.InvalidLooks, LOOK, BAD_LOOKS, 8),
    ("findings", errors.InvalidFindings, (LOOK, "steam"), BAD_FINDINGS, 8),
    ("sightings", errors.InvalidSightings, SIGHTING, BAD_SIGHTINGS, 8),
):
    strange = tuple((v, 0 if isinstance(v, tuple) and v else None) for v in STRANGE if not (isinstance(v, tuple) and not v))
    BAD[kind] = (error, strange + spoilt_rows(good, bad, most))
BAD["wrongs"] = (errors.InvalidWrongs, BAD["wrongs"][1] + (((), None),))
BAD["sightings"] = (errors.InvalidSightings, BAD["sightings"][1] + (((), 0),))
BAD["sighting"] = (errors.InvalidSightings, tuple((v, None) for v in STRANGE + WHOLE[:3] + PAIRS[:3] + BAD_SIGHTINGS))

OTHERS = {"other turn": "turn", "other angle": "angle", "other region": "region", "low": "angle", "high": "angle"}
GOOD = {
    "form": 1, "vector": (3, 4), "level": 3, "way": (3, 4), "turn": (2, 1), "angle": (1, 3, 4, 3), "region": (1, SIDE),
    "valve": SLIDE, "laps": (3, 0, 3, 0), "port": 2, "end": "crank", "state": "both", "event": "cutoff", "ratio": (1, 2),
    "rod": (5, 1), "long rod": (5, 1), "share": (1, 3), "stroke": "back", "polynomial": (-3, 0, 1), "any ratio": (-7, 3), "bound": (-7, 3), "positive ratio": (7, 3), "point": ((-2, 0, 1), 1),
    "other point": (1, 2), "link": LINK, "notch": (-1, 3), "lot": (((-1, 1), True, ((-1, 0, 2), 1), False), ((1, 1), True, (1, 1), True)), "rider": (-4, 4),
    "engine": (1, (CYLINDER, ((0, 1), 1, SLIDE))), "sense": -1, "geared": (1, (GEAR, ((0, 1), 1, LINK))), "wrong": WRONG, "look": LOOK,
    "wrongs": (WRONG, ("right",), ("slipped", (0, 1)), ("thrown", (1, 2)), ("opposite",), WRONG), "looks": (LOOK,) * 8,
    "high notch": (1, 2), "findings": ((LOOK, "steam"),) * 8, "sightings": (SIGHTING,) * 8, "sighting": SIGHTING,
}
# Each function with the names and the kinds of its arguments, in the order of the signature.
FUNCTIONS = (
    (angles.angle_of, (("form",), ("vector",), ("level",))),
    (angles.falling_angle, (("form",), ("vector",), ("level",))),
    (angles.way_angle, (("form",), ("way",))),
    (places.as_way, (("angle",),)),
    (places.side_at, (("angle",), ("vector",), ("level",))),
    (places.is_same_place, (("angle",), ("other", "angle"))),
    (places.is_before, (("angle",), ("other", "angle"))),
    (places.is_between, (("angle",), ("low", "angle"), ("high", "angle"))),
    (places.way_between, (("low", "angle"), ("high", "angle"))),
    (places.opposite_angle, (("angle",),)),
    (places.mirrored_angle, (("angle",),)),
    (places.turned_angle, (("angle",), ("turn",))),
    (places.turned, (("form",), ("vector",), ("turn",))),
    (places.turn_sum, (("form",), ("turn",), ("other", "turn"))),
    (places.turn_back, (("turn",),)),
    (regions.holds, (("region",), ("angle",))),
    (regions.cuts, (("region",),)),
    (regions.arcs, (("region",),)),
    (regions.is_never, (("region",),)),
    (regions.is_always, (("region",),)),
    (regions.lies_within, (("region",), ("other", "region"))),
    (regions.is_same_region, (("region",), ("other", "region"))),
    (regions.some_angle, (("region",),)),
    (regions.parting_angle, (("region",), ("other", "region"))),
    (regions.opposite_region, (("region",),)),
    (regions.turned_region, (("region",), ("turn",))),
    (valves.valve_of, (("form",), ("vector",), ("laps",), ("port",))),
    (valves.state_at, (("valve",), ("end",), ("angle",))),
    (valves.state_region, (("valve",), ("end",), ("state",))),
    (valves.events, (("valve",),)),
    (valves.event_angle, (("valve",), ("end",), ("event",))),
    (valves.leads, (("valve",),)),
    (valves.blows, (("valve",), ("end",))),
    (valves.reversed_valve, (("valve",),)),
    (valves.exchanged_valve, (("valve",),)),
    (valves.turned_valve, (("valve",), ("turn",))),
    (ports.compare_opening, (("valve",), ("end",), ("angle",), ("ratio",))),
    (ports.compare_greatest, (("valve",), ("end",), ("ratio",))),
    (ports.wide_region, (("valve",), ("end",), ("ratio",))),
    (ports.greatest_way, (("valve",), ("end",))),
    (pistons.share_angle, (("form",), ("rod",), ("share",), ("stroke",))),
    (pistons.compare_share, (("rod",), ("angle",), ("share",))),
    (pistons.compare_for_rods, (("rod", "long rod"), ("angle",), ("share",))),
    (pistons.compare_event, (("valve",), ("rod",), ("end",), ("event",), ("share",))),
    (pistons.compare_pistons, (("angle",), ("other", "angle"))),
    (pistons.compare_cutoffs, (("valve",),)),
    (polynomials.added, (("polynomial",), ("other", "polynomial"))),
    (polynomials.multiplied, (("polynomial",), ("other", "polynomial"))),
    (polynomials.value_at, (("polynomial",), ("ratio", "any ratio"))),
    (polynomials.reduced_polynomial, (("polynomial",),)),
    (polynomials.common_divisor, (("polynomial",), ("other", "polynomial"))),
    (polynomials.plain_polynomial, (("polynomial",),)),
    (polynomials.count_roots, (("polynomial",), ("low", "bound"), ("high", "bound"))),
    (knots.roots_of, (("polynomial",),)),
    (knots.sign_at, (("polynomial",), ("point",))),
    (knots.compare_points, (("point",), ("other", "point"))),
    (knots.ratio_between, (("point",), ("other", "other point"))),
    (knots.enclosed, (("point",), ("ratio", "positive ratio"))),
    (links.valve_at, (("link",), ("notch",))),
    (links.eccentric_of, (("link",),)),
    (links.lead_at, (("link",), ("end",), ("notch",))),
    (links.has_one_lead, (("link",), ("end",))),
    (notches.lot_holds, (("lot",), ("point",))),
    (notches.lot_both, (("lot",), ("other", "lot"))),
    (notches.lot_either, (("lot",), ("other", "lot"))),
    (notches.lot_rest, (("lot",),)),
    (notches.are_same_lots, (("lot",), ("other", "lot"))),
    (notches.any_notch, (("lot",),)),
    (notches.event_notches, (("link",), ("end",), ("event",))),
    (notches.lead_notches, (("link",), ("end",), ("ratio", "any ratio"))),
    (notches.state_notches, (("link",), ("angle",), ("end",), ("state",))),
    (notches.late_notches, (("link",), ("end",), ("rod",), ("share",))),
    (notches.blow_notches, (("link",), ("end",))),
    (riders.open_region, (("valve",), ("rider",), ("end",), ("ratio", "any ratio"))),
    (riders.plate_kind, (("valve",), ("rider",), ("end",), ("ratio", "any ratio"))),
    (riders.plate_marks, (("valve",), ("rider",), ("end",))),
    (riders.plate_kinds, (("valve",), ("rider",), ("end",))),
    (riders.compare_distance, (("valve",), ("rider",), ("end",), ("angle",), ("ratio", "any ratio"))),
    (alike.are_alike, (("valve",), ("other", "valve"))),
    (alike.unlike_angle, (("valve",), ("other", "valve"))),
    (alike.are_alike_turned, (("valve",), ("other", "valve"))),
    (alike.are_alike_at, (("link",), ("other", "link"), ("notch",))),
    (alike.are_always_alike, (("link",), ("other", "link"))),
    (alike.alike_notches, (("link",), ("other", "link"))),
    (alike.parting_notch, (("link",), ("other", "link"))),
    (engines.states_at, (("engine",), ("angle",))),
    (engines.pull_vector, (("engine",), ("angle",))),
    (engines.pull_sign, (("engine",), ("angle",))),
    (engines.compare_pull, (("engine",), ("angle",), ("ratio", "any ratio"))),
    (engines.marks_of, (("engine",),)),
    (engines.starting_arcs, (("engine",), ("sense",))),
    (engines.starts_everywhere, (("engine",), ("sense",))),
    (engines.dead_angle, (("engine",), ("sense",))),
    (engines.is_above, (("engine",), ("sense",), ("ratio", "any ratio"))),
    (engines.weak_angle, (("engine",), ("sense",), ("ratio", "any ratio"))),
    (engines.mirrored_engine, (("engine",),)),
    (zones.engine_at, (("geared",), ("notch",))),
    (zones.critical_notches, (("geared",),)),
    (zones.starts_at, (("geared",), ("sense",), ("notch",))),
    (zones.starting_zones, (("geared",), ("sense",))),
    (zones.any_starting_notch, (("geared",), ("sense",))),
    (zones.stalling_notch, (("geared",), ("sense",))),
    (settings.moved, (("valve",), ("ratio", "any ratio"))),
    (settings.thrown, (("valve",), ("ratio", "positive ratio"))),
    (settings.opposite, (("valve",),)),
    (settings.even_shift, (("valve",),)),
    (settings.even_release_shift, (("valve",),)),
    (settings.evened, (("valve",),)),
    (settings.crossed, (("link",),)),
    (settings.moved_link, (("link",), ("ratio", "any ratio"))),
    (settings.turned_link, (("link",), ("turn",))),
    (settings.thrown_link, (("link",), ("ratio", "positive ratio"))),
    (looks.wrong_valve, (("valve",), ("wrong",))),
    (looks.seen, (("valve",), ("look",))),
    (looks.is_parting, (("valve",), ("other", "valve"), ("look",))),
    (looks.left_by, (("valve",), ("wrongs",), ("findings",))),
    (looks.blind_pairs, (("valve",), ("wrongs",))),
    (looks.fewest_looks, (("valve",), ("wrongs",), ("looks",))),
    (looks.any_fewest_looks, (("valve",), ("wrongs",))),
    (fits.sighting_rows, (("form",), ("sighting",))),
    (fits.fits, (("link",), ("sightings",))),
    (fits.fitting_link, (("form",), ("sightings",))),
    (fits.bar, (("form",), ("sightings",))),
    (fits.freedom, (("form",), ("sightings",))),
    (fits.follows, (("form",), ("sightings",), ("sighting",))),
    (fits.parting_link, (("form",), ("sightings",), ("sighting",))),
    (certificates.certify_place, (("region",), ("angle",))),
    (certificates.certify_region, (("region",),)),
    (certificates.certify_within, (("region",), ("other", "region"))),
    (certificates.certify_state, (("valve",), ("end",), ("angle",))),
    (certificates.certify_blow, (("valve",), ("end",))),
    (certificates.certify_share, (("valve",), ("rod",), ("end",), ("event",), ("share",))),
    (certificates.certify_greatest, (("valve",), ("end",), ("ratio",))),
    (certificates.certify_alike, (("valve",), ("other", "valve"))),
    (certificates.certify_links, (("link",), ("other", "link"))),
    (certificates.certify_roots, (("polynomial",),)),
    (certificates.certify_notches, (("link",), ("angle",), ("end",), ("state",))),
    (certificates.certify_always, (("link",), ("angle",), ("end",), ("state",))),
    (certificates.certify_kinds, (("valve",), ("rider",), ("end",))),
    (certificates.certify_start, (("engine",), ("sense",))),
    (certificates.certify_pull, (("engine",), ("sense",), ("ratio", "any ratio"))),
    (certificates.certify_zone, (("geared",), ("sense",), ("low", "notch"), ("high", "high notch"))),
    (certificates.certify_run, (("geared",), ("sense",), ("notch",))),
    (certificates.certify_fit, (("link",), ("sightings",))),
    (certificates.certify_fitting, (("form",), ("sightings",))),
    (certificates.certify_following, (("form",), ("sightings",), ("sighting",))),
    (certificates.certify_blind, (("valve",), ("wrong",), ("other", "wrong"))),
    (certificates.certify_looks, (("valve",), ("wrongs",))),
)
# What is told with "last": the function, good arguments, those whose form may be another one.
UNLIKES = (
    (places.is_same_place, ("angle", "other")), (places.is_before, ("angle", "other")),
    (places.is_between, ("angle", "low", "high")), (places.way_between, ("low", "high")),
    (regions.holds, ("region", "angle")), (regions.lies_within, ("region", "other")),
    (regions.is_same_region, ("region", "other")), (regions.parting_angle, ("region", "other")),
    (valves.state_at, ("valve", "angle")), (ports.compare_opening, ("valve", "angle")),
    (pistons.compare_pistons, ("angle", "other")),
    (notches.state_notches, ("link", "angle")), (riders.compare_distance, ("valve", "angle")),
    (alike.are_alike, ("valve", "other")), (alike.unlike_angle, ("valve", "other")), (alike.are_alike_turned, ("valve", "other")),
    (alike.are_alike_at, ("link", "other")), (alike.are_always_alike, ("link", "other")), (alike.alike_notches, ("link", "other")),
    (alike.parting_notch, ("link", "other")), (engines.states_at, ("engine", "angle")), (engines.pull_vector, ("engine", "angle")),
    (engines.pull_sign, ("engine", "angle")), (engines.compare_pull, ("engine", "angle")), (looks.is_parting, ("valve", "other")),
    (certificates.certify_place, ("region", "angle")), (certificates.certify_within, ("region", "other")),
    (certificates.certify_state, ("valve", "angle")), (certificates.certify_alike, ("valve", "other")),
    (certificates.certify_links, ("link", "other")), (certificates.certify_notches, ("link", "angle")),
    (certificates.certify_always, ("link", "angle")),
)
OF_OTHER_FORM = {
    "angle": (2, 3, 4, 3), "region": (2, SIDE), "valve": (2,) + SLIDE[1:], "link": (2,) + LINK[1:],
    "engine": (2, (((2, 1), 3, (2,) + SLIDE[1:]),)), "look": ((2, 0, 1, 0), "head"),
}
# The questions that any value may be asked, and the kinds that they tell.
QUESTIONS = (
    (angles.is_angle, "angle"), (angles.is_turn, "turn"), (regions.is_region, "region"), (valves.is_valve, "valve"),
    (polynomials.is_polynomial, "polynomial"), (knots.is_knot, "point"), (knots.is_point, "point"), (links.is_link, "link"), (notches.is_lot, "lot"),
    (zones.is_geared, "geared"),
)
