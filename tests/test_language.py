"""The files of the package against LANGUAGE.md, and the check itself against code that breaks it."""

import ast
import importlib
import inspect
import os
import unittest

from tests.language import PACKAGE, faults, package_faults
from tests.test_errors import GIVEN, INDEX, NOTHING

ROOT = os.path.dirname(os.path.dirname(os.path.abspath(__file__)))
FOLDER = os.path.join(ROOT, PACKAGE)
# What has landed of the interface, with the parameters.
INTERFACE = {
    "errors": {name: None for name in ["SteamError"] + GIVEN + INDEX + NOTHING},
    "angles": {
        "is_angle": "value", "is_turn": "value", "angle_of": "form vector level", "falling_angle": "form vector level",
        "way_angle": "form way",
    },
    "places": {
        "as_way": "angle", "side_at": "angle vector level", "is_same_place": "angle other", "is_before": "angle other",
        "is_between": "angle low high", "way_between": "low high", "opposite_angle": "angle", "mirrored_angle": "angle",
        "turned_angle": "angle turn", "turned": "form vector turn", "turn_sum": "form turn other", "turn_back": "turn",
    },
    "regions": {
        "is_region": "value", "holds": "region angle", "cuts": "region", "arcs": "region", "is_never": "region",
        "is_always": "region", "lies_within": "region other", "is_same_region": "region other", "some_angle": "region",
        "parting_angle": "region other", "opposite_region": "region", "turned_region": "region turn",
    },
    "valves": {
        "is_valve": "value", "valve_of": "form vector laps port", "state_at": "valve end angle",
        "state_region": "valve end state", "events": "valve", "event_angle": "valve end event", "leads": "valve",
        "blows": "valve end", "reversed_valve": "valve", "exchanged_valve": "valve", "turned_valve": "valve turn",
    },
    "ports": {
        "compare_opening": "valve end angle ratio", "compare_greatest": "valve end ratio", "wide_region": "valve end ratio",
        "greatest_way": "valve end",
    },
    "pistons": {
        "share_angle": "form rod share stroke", "compare_share": "rod angle share", "compare_for_rods": "rod angle share",
        "compare_event": "valve rod end event share", "compare_pistons": "angle other", "compare_cutoffs": "valve",
    },
    "polynomials": {
        "is_polynomial": "value", "added": "polynomial other", "multiplied": "polynomial other", "value_at": "polynomial ratio",
        "reduced_polynomial": "polynomial", "common_divisor": "polynomial other", "plain_polynomial": "polynomial",
        "count_roots": "polynomial low high",
    },
    "knots": {
        "is_knot": "value", "is_point": "value", "roots_of": "polynomial", "sign_at": "polynomial point", "compare_points": "point other",
        "ratio_between": "point other", "enclosed": "point ratio",
    },
    "links": {
        "is_link": "value", "valve_at": "link notch", "eccentric_of": "link", "lead_at": "link end notch", "has_one_lead": "link end",
    },
    "notches": {
        "is_lot": "value", "lot_holds": "lot point", "lot_both": "lot other", "lot_either": "lot other", "lot_rest": "lot",
        "are_same_lots": "lot other", "any_notch": "lot", "event_notches": "link end event", "lead_notches": "link end ratio",
        "state_notches": "link angle end state", "late_notches": "link end rod share", "blow_notches": "link end",
    },
    "riders": {
        "open_region": "valve rider end ratio", "plate_kind": "valve rider end ratio", "plate_marks": "valve rider end",
        "plate_kinds": "valve rider end", "compare_distance": "valve rider end angle ratio",
    },
    "alike": {
        "are_alike": "valve other", "unlike_angle": "valve other", "are_alike_turned": "valve other",
        "are_alike_at": "link other notch", "are_always_alike": "link other", "alike_notches": "link other",
        "parting_notch": "link other",
    },
    "engines": {
        "states_at": "engine angle", "pull_vector": "engine angle", "pull_sign": "engine angle", "compare_pull": "engine angle ratio",
        "marks_of": "engine", "starting_arcs": "engine sense", "starts_everywhere": "engine sense", "dead_angle": "engine sense",
        "is_above": "engine sense ratio", "weak_angle": "engine sense ratio", "mirrored_engine": "engine",
    },
    "zones": {
        "is_geared": "value", "engine_at": "geared notch", "critical_notches": "geared", "starts_at": "geared sense notch",
        "starting_zones": "geared sense", "any_starting_notch": "geared sense", "stalling_notch": "geared sense",
    },
    "settings": {
        "moved": "valve ratio", "thrown": "valve ratio", "opposite": "valve", "even_shift": "valve", "even_release_shift": "valve",
        "evened": "valve", "crossed": "link", "moved_link": "link ratio", "turned_link": "link turn", "thrown_link": "link ratio",
    },
    "looks": {
        "wrong_valve": "valve wrong", "seen": "valve look", "is_parting": "valve other look", "left_by": "valve wrongs findings",
        "blind_pairs": "valve wrongs", "fewest_looks": "valve wrongs looks", "any_fewest_looks": "valve wrongs",
    },
    "fits": {
        "sighting_rows": "form sighting", "fits": "link sightings", "fitting_link": "form sightings", "bar": "form sightings",
        "freedom": "form sightings", "follows": "form sightings sighting", "parting_link": "form sightings sighting",
    },
    "workshops": {"Workshop": ""},
    "consoles": {"Console": "shop"},
    "checker": {"accepts": "claim paper"},
    "certificates": {
        "certify_place": "region angle", "certify_region": "region", "certify_within": "region other",
        "certify_state": "valve end angle", "certify_blow": "valve end", "certify_share": "valve rod end event share",
        "certify_greatest": "valve end ratio", "certify_alike": "valve other", "certify_links": "link other",
        "certify_roots": "polynomial", "certify_notches": "link angle end state", "certify_always": "link angle end state",
        "certify_kinds": "valve rider end", "certify_start": "engine sense", "certify_pull": "engine sense ratio",
        "certify_zone": "geared sense low high", "certify_run": "geared sense notch", "certify_fit": "link sightings",
        "certify_fitting": "form sightings", "certify_following": "form sightings sighting",
        "certify_blind": "valve wrong other", "certify_looks": "valve wrongs",
    },
}
# The methods and properties of the classes, which their own bodies define.
METHODS = {
    ("workshops", "Workshop"): {
        "put": "name thing", "drop": "name", "wish": "wish", "lift": "index", "named": "name", "undo": "", "trial": "",
        "tried": "action", "__len__": "", "__bool__": "", "__contains__": "name", "names": "", "wishes": "",
    },
    ("consoles", "Console"): {"__init__": "shop", "say": "line"},
}
# A piece of code for each rule that the check knows, and the rule that it breaks.
BROKEN = (
    ("L2", "from os import path\n"), ("L2", "from .angles import is_form\n"), ("L2", "from steamlinks.angles import *\n"),
    ("L2", "def f():\n    from steamlinks.angles import is_form\n    return is_form\n"), ("L2", "from math import sqrt\n"),
    ("L2", "from math import gcd as common\n"), ("L2", "A = 1\nfrom math import gcd\n"),
    ("L2", "from math import gcd\n\n\ndef f(xs):\n    return gcd(*xs)\n"),
    ("L2", "from math import gcd\n\n\ndef f(xs):\n    g = gcd\n    return g(xs, 1)\n"),
    ("L16", "import steamlinks.angles\n"), ("L16", "import sys\n"), ("L3", "for x in (1, 2):\n    pass\n"),
    ("L3", "A = len((1, 2))\n"), ("L3", "A, B = 1, 2\n"), ("L15", "A = ([1], 2)\n"), ("L15", "A = 1\nA = 2\n"),
    ("L15", "def f():\n    return 1\n\n\ndef f():\n    return 2\n"), ("L15", "def f(hash):\n    return hash\n"),
    ("L15", "from math import gcd\n\n\ndef f(gcd):\n    return 1\n"), ("L15", "def f():\n    round = 1\n    return round\n"),
    ("L15", "def f():\n    class A:\n        pass\n    return 1\n"),
    ("L15", "from steamlinks.places import turned\n\n\ndef f(x):\n    turned = x\n    return turned\n"),
    ("L4", "def f(x=[]):\n    return x\n"), ("L4", "def d(f):\n    return f\n\n\n@d\ndef g():\n    return 1\n"),
    ("L6", "def f():\n    global A\n    A = 1\n"), ("L6", "async def f():\n    return 1\n"), ("L6", "def f(:\n"),
    ("L7", "def f(x):\n    return x / 2\n"), ("L7", "A = 1.5\n"), ("L7", "def f(xs):\n    return (x for x in xs)\n"),
    ("L8", "def f(x):\n    return hash(x)\n"), ("L8", "def f(x):\n    return pow(x, 2)\n"), ("L8", "def f(x):\n    return chr(x)\n"),
    ("L8", "def f(list):\n    return 1\n"), ("L8", "class A:\n    def sum(self):\n        return 1\n"),
    ("L8", "def f(x):\n    print(x)\n"), ("L8", "def f(x):\n    return x.__dict__\n"),
    ("L10", "A = 1\n" * 400), ("L10", "A = '" + "x" * 120 + "'\n"), ("L10", "def f(x):\n" + "    x += 1\n" * 40),
    ("L12", "__a = 1\n"), ("L12", "_wall = 1\n"), ("L12", "_pe_x = 1\n"), ("L12", "class _A:\n    pass\n"),
    ("L12", "def f(_record):\n    return 1\n"), ("L12", "def f():\n    _ = 1\n    return _\n"),
    ("L14", "A = 1\t\n"), ("L14", "# \u00e9\n"), ("L17", "def f(register):\n    return 1\n"), ("L17", "def f(id):\n    return 1\n"),
    ("L17", "def f(x):\n    return x.open\n"), ("L17", "A = 'an Enum'\n"), ("L17", "def f(x):\n    return x.f_back\n"),
    ("L17", "def f(x):\n    x.law = 1\n"), ("L17", "my_dataclass = 1\n"), ("L17", "def f(x):\n    return type(x)\n"),
    ("L18", "class A:\n    def f(self):\n        return 1\n\n    def f(self):\n        return 2\n"),
    ("L19", "def f(e):\n    raise e\n"), ("L19", "def f(x):\n    try:\n        return x[0]\n    except TypeError:\n        return 1\n"),
    ("L19", "def f(x):\n    try:\n        return x[0]\n    except Exception:\n        return 1\n"),
    ("L20", "def f(x, y):\n    return x is y\n"), ("L20", "def f(self, x):\n    return self is x\n"),
    ("L20", "class A:\n    def f(self, x, y):\n        return x is y\n"), ("L22", "def f(xs):\n    g = len\n    return g(xs)\n"),
    ("L22", "def f(x):\n    return int(x, base=2)\n"), ("L23", "def f(xs):\n    return zip(xs, xs)\n"),
    ("L24", "def f(xs):\n    return {x for x in xs}\n"), ("L26", "def f(x):\n    x.items = 1\n"),
    ("L27", "A = '100 %'\n"), ("L27", "def f(n):\n    return 2 ** n\n"), ("L27", "A = '__odd__'\n"),
    ("L28", "def __len__():\n    return 1\n"),
)
CLEAN = '''"""What this is."""

from math import gcd, isqrt

from steamlinks.angles import is_form

NAMES = ("a", "b")


class Box:
    """A box."""

    def __init__(self, rows):
        self.rows = rows

    def __len__(self):
        return len(self.rows)

    def __eq__(self, other):
        return self is other


def common(first, *, other=1):
    # Why, not what.
    rows = [x * x for x in range(first) if x in NAMES or is_form(x)]
    for at, row in enumerate(rows):
        if row is None or isinstance(row, (int, str)):
            rows = rows + [gcd(at, isqrt(other))]
    return sorted(rows, key=lambda x: -x), any([row > 1 for row in rows]), (1 << first) // 3, ", ".join(NAMES)
'''


def files_of_package():
    files = {}
    for name in sorted(os.listdir(FOLDER)):
        if name != "__pycache__":
            with open(os.path.join(FOLDER, name), encoding="utf-8") as file:
                files[name] = file.read()
    return files


class Package(unittest.TestCase):
    def test_no_faults(self):
        self.assertEqual(package_faults(files_of_package()), [])

    def test_only_files_of_python(self):
        for name in files_of_package():
            self.assertTrue(name.endswith(".py"), name)

    def test_the_interface_is_defined_where_it_is_listed(self):
        files = files_of_package()
        for module, names in INTERFACE.items():
            defined = [
                node.name for node in ast.parse(files[module + ".py"]).body if isinstance(node, (ast.FunctionDef, ast.ClassDef))
            ]
            for name, parameters in names.items():
                self.assertIn(name, defined, module)
                if parameters is not None:
                    function = getattr(importlib.import_module(f"{PACKAGE}.{module}"), name)
                    self.assertEqual(list(inspect.signature(function).parameters), parameters.split(), name)


    def test_the_methods_are_defined_in_their_classes(self):
        files = files_of_package()
        for (module, name), methods in METHODS.items():
            (body,) = [node.body for node in ast.parse(files[module + ".py"]).body if getattr(node, "name", None) == name]
            found = {
                part.name: [argument.arg for argument in part.args.args] for part in body if isinstance(part, ast.FunctionDef)
            }
            for method, parameters in methods.items():
                self.assertEqual(found.get(method), ["self"] + parameters.split(), (name, method))


class Check(unittest.TestCase):
    def test_meets_what_is_broken(self):
        for rule, text in BROKEN:
            self.assertIn(rule, [fault[0] for fault in faults("some.py", text)], text[:200])

    def test_passes_what_is_not(self):
        self.assertEqual(faults("some.py", CLEAN), [])

    def test_tells_the_line(self):
        self.assertEqual(faults("some.py", "A = 1\nB = 1.5\n"), [("L7", "some.py", 2, "a float")])

    def check_files(self, rule, files):
        found = package_faults({"__init__.py": "", **files})
        self.assertIn(rule, [fault[0] for fault in found], files)

    def test_files_together(self):
        self.assertEqual(package_faults({"__init__.py": "", "some.py": CLEAN, "angles.py": "def is_form(x):\n    return x\n"}), [])
        self.check_files("L16", {"a.py": "from steamlinks.b import f\n", "b.py": "g = 1\n"})
        self.check_files("L16", {"a.py": "from steamlinks.c import f\n"})
        self.check_files("L16", {"a.py": "from steamlinks.b import f\n", "b.py": "from steamlinks.c import f\n", "c.py": "f = 1\n"})
        self.check_files("L16", {
            "a.py": "from steamlinks.b import f\n\ng = 1\n", "b.py": "from steamlinks.c import h\n\nf = 1\n",
            "c.py": "from steamlinks.a import g\n\nh = 1\n",
        })
        self.check_files("L25", {"a.py": "def f(x):\n    return x.as_integer_ratio()\n"})
        self.check_files("L25", {"a.py": "def f(x):\n    return x.split(sep=',')\n"})
        for name in ("test_a.py", "law_a.py", "Sum.py", "sum.py", "math.py", "conftest.py", "a-b.py", "type.py"):
            found = [fault[0] for fault in package_faults({"__init__.py": "", name: ""})]
            self.assertTrue("L14" in found or "L1" in found, name)
        self.assertIn("L14", [fault[0] for fault in package_faults({"a.py": ""})])


if __name__ == "__main__":
    unittest.main()
