"""Refused arguments: each function, each argument, one wrong one and several at once."""

import unittest

from steamlinks import angles, errors, knots, pistons, places, polynomials
from tests.arguments import AT_HOME, BAD, FRONT, FUNCTIONS, GOOD, OF_OTHER_FORM, QUESTIONS, UNLIKES
from tests.test_errors import INDEX
from tests.test_language import INTERFACE


def good_arguments(names):
    return {told[0]: GOOD[told[-1]] for told in names}


INDEXED = [getattr(errors, name) for name in INDEX]


class Refusals(unittest.TestCase):
    def check_refused(self, function, arguments, error, due, message):
        for call in (lambda: function(**arguments), lambda: function(*arguments.values())):
            try:
                answer = call()
            except errors.SteamError as found:
                self.assertIs(type(found), error, message)
                if error in INDEXED:
                    self.assertEqual((type(found.index), found.index), (type(due), due), message)
                else:
                    self.assertIs(found.given, due, message)
            else:
                self.fail(f"{message}: no error but {answer!r}")

    def test_all_good(self):
        for function, names in FUNCTIONS:
            function(**good_arguments(names))
            function(*good_arguments(names).values())

    def test_one_wrong_argument(self):
        for function, names in FUNCTIONS:
            for told in names:
                error, values = BAD[told[-1]]
                for index, (value, due) in enumerate(values):
                    arguments = good_arguments(names)
                    arguments[told[0]] = value
                    self.check_refused(function, arguments, error, due, (function.__name__, told, index))

    def test_two_wrong_arguments_and_more(self):
        for function, names in FUNCTIONS:
            for first in range(len(names)):
                error, values = BAD[names[first][-1]]
                for value, due in values[::5]:
                    for second in range(first + 1, len(names)):
                        for worse, _ in BAD[names[second][-1]][1][::7]:
                            arguments = good_arguments(names)
                            arguments[names[first][0]], arguments[names[second][0]] = value, worse
                            self.check_refused(function, arguments, error, due, (function.__name__, first, second))
                    arguments = good_arguments(names)
                    for told in names[first:]:
                        arguments[told[0]] = value if told == names[first] else object()
                    self.check_refused(function, arguments, error, due, (function.__name__, first, "all"))

    def kinds_of(self, function):
        return {told[0]: told[-1] for told in dict(FUNCTIONS)[function]}

    def test_another_form(self):
        for function, parts in UNLIKES:
            kinds = self.kinds_of(function)
            for part in parts[1:]:
                arguments = good_arguments(dict(FUNCTIONS)[function])
                arguments[part] = OF_OTHER_FORM[kinds[part]]
                self.check_refused(function, arguments, errors.Unlike, arguments[part], (function.__name__, part))
            # With the first one of another form, it is the next one that is unlike.
            arguments = good_arguments(dict(FUNCTIONS)[function])
            arguments[parts[0]] = OF_OTHER_FORM[kinds[parts[0]]]
            if "look" in arguments:
                arguments["look"] = OF_OTHER_FORM["look"]
            self.check_refused(function, arguments, errors.Unlike, arguments[parts[1]], (function.__name__, "first"))

    def test_three_angles_of_other_forms(self):
        one, two, three = (1, 3, 4, 3), (2, 3, 4, 3), (3, 3, 4, 3)
        for told, given in (
            ((one, two, three), two), ((one, two, one), two), ((one, one, two), two), ((one, two, two), two), ((one, one, three), three),
        ):
            arguments = dict(zip(("angle", "low", "high"), told))
            self.check_refused(places.is_between, arguments, errors.Unlike, given, told)

    def test_another_form_is_told_last(self):
        for function, parts in UNLIKES:
            kinds = self.kinds_of(function)
            for told in dict(FUNCTIONS)[function]:
                error, values = BAD[told[-1]]
                for value, due in values[::4]:
                    arguments = good_arguments(dict(FUNCTIONS)[function])
                    for part in parts[1:]:
                        arguments[part] = OF_OTHER_FORM[kinds[part]]
                    arguments[told[0]] = value
                    self.check_refused(function, arguments, error, due, (function.__name__, told, "before last"))

    def test_no_angle_is_told_last(self):
        for function in (angles.angle_of, angles.falling_angle):
            for name, (error, values) in (("form", BAD["form"]), ("vector", BAD["vector"]), ("level", BAD["level"])):
                for value, due in values:
                    arguments = {"form": 1, "vector": (3, 4), "level": 5}
                    arguments[name] = value
                    self.check_refused(function, arguments, error, due, (function.__name__, name))

    def test_nought_is_told_last(self):
        for name in ("low", "high"):
            error, values = BAD["bound"]
            for value, _ in values:
                arguments = {"polynomial": (), "low": (1, 1), "high": (0, 1), name: value}
                self.check_refused(polynomials.count_roots, arguments, error, value, ("count_roots", name))
        for value, _ in BAD["polynomial"][1]:
            arguments = {"polynomial": (), "other": value}
            self.check_refused(polynomials.common_divisor, arguments, errors.InvalidPolynomial, value, "common_divisor")
            arguments = {"polynomial": value, "other": ()}
            self.check_refused(polynomials.common_divisor, arguments, errors.InvalidPolynomial, value, "common_divisor")

    def test_same_is_told_with_the_other_point(self):
        for point, other in (
            ((1, 2), (1, 2)), (((-2, 0, 1), 1), ((-2, 0, 1), 1)), (((-2, 0, 1), 1), ((-4, 0, 0, 0, 1), 1)), (((-4, 0, 0, 0, 1), 0), ((-2, 0, 1), 0)),
        ):
            self.check_refused(knots.ratio_between, {"point": point, "other": other}, errors.Same, other, "ratio_between")

    def test_questions_of_any_value(self):
        for question, kind in QUESTIONS:
            for value, _ in BAD[kind][1]:
                self.assertIs(question(value), False)
                self.assertIs(question(value=value), False)
            self.assertIs(question(GOOD[kind]), True)
            if kind in AT_HOME:
                self.assertIs(question(AT_HOME[kind]), True)

    def test_endless_rods(self):
        self.assertEqual(pistons.compare_share(None, FRONT, (1, 2)), -1)
        self.check_refused(
            pistons.compare_for_rods, {"rod": None, "angle": (2, 0, 0, 0), "share": (1, 2)}, errors.InvalidRod, None, "endless",
        )

    def test_every_function_of_the_interface_is_here(self):
        told = {function.__name__ for function, _ in FUNCTIONS + QUESTIONS}
        # Workshops and consoles have tests of their own, and the checker refuses nothing.
        others = [name for module in ("errors", "workshops", "consoles", "checker") for name in INTERFACE[module]]
        self.assertEqual(told, {name for names in INTERFACE.values() for name in names} - set(others))


if __name__ == "__main__":
    unittest.main()
