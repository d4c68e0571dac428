import unittest

import steamlinks.errors as errors

GIVEN = """InvalidForm InvalidVector InvalidNumber InvalidRatio InvalidAngle InvalidWay InvalidTurn InvalidRegion
InvalidValve InvalidLaps InvalidPort InvalidEnd InvalidWord InvalidRod InvalidShare InvalidStroke InvalidPolynomial
InvalidPoint InvalidLink InvalidNotch InvalidLot InvalidEngine InvalidSense InvalidGeared InvalidWrong InvalidLook
InvalidThing InvalidName InvalidWish InvalidIndex InvalidPhrase Unlike Same UnknownName NotAWorkshop""".split()
INDEX = "InvalidSightings InvalidWrongs InvalidLooks InvalidFindings InUse Broken".split()
NOTHING = "NoAngle NoFit Nought NothingToUndo".split()
VALUES = (None, True, 0, -3, "x", "", b"y", (), (1, (2, 3)), [1, [2]], {"a": 1}, object(), len, ValueError("z"), 10 ** 5000)


class ErrorClasses(unittest.TestCase):
    def test_base_stands_under_value_error_alone(self):
        self.assertEqual(errors.SteamError.__bases__, (ValueError,))

    def test_base_is_made_as_value_error_is(self):
        for told in ((), ("one",), ("one", 2), (None,)):
            self.assertEqual(errors.SteamError(*told).args, ValueError(*told).args)
            self.assertEqual(str(errors.SteamError(*told)), str(ValueError(*told)))
        with self.assertRaises(TypeError):
            errors.SteamError(given=1)

    def test_each_stands_under_the_base_alone(self):
        for name in GIVEN + INDEX + NOTHING:
            with self.subTest(name):
                self.assertEqual(getattr(errors, name).__bases__, (errors.SteamError,))
                self.assertEqual(getattr(errors, name).__module__, "steamlinks.errors")
                self.assertEqual(getattr(errors, name).__name__, name)

    def test_no_other_classes_are_there(self):
        classes = [name for name, value in vars(errors).items() if isinstance(value, type)]
        self.assertEqual(sorted(classes), sorted(GIVEN + INDEX + NOTHING + ["SteamError"]))

    def check_kept(self, name, told):
        for value in VALUES:
            for error in (getattr(errors, name)(value), getattr(errors, name)(**{told: value})):
                with self.subTest(name):
                    self.assertEqual(list(vars(error)), [told])
                    self.assertIs(getattr(error, told), value)
                    self.assertIsInstance(str(error), str)

    def test_given_is_kept(self):
        for name in GIVEN:
            self.check_kept(name, "given")

    def test_index_is_kept(self):
        for name in INDEX:
            self.check_kept(name, "index")

    def test_made_with_just_one_value(self):
        for name in GIVEN + INDEX:
            with self.subTest(name):
                with self.assertRaises(TypeError):
                    getattr(errors, name)()
                with self.assertRaises(TypeError):
                    getattr(errors, name)(1, 2)
                with self.assertRaises(TypeError):
                    getattr(errors, name)(told=1)

    def test_made_with_nothing(self):
        for name in NOTHING:
            with self.subTest(name):
                self.assertEqual(vars(getattr(errors, name)()), {})
                with self.assertRaises(TypeError):
                    getattr(errors, name)(1)
                with self.assertRaises(TypeError):
                    getattr(errors, name)(given=1)

    def test_caught_as_value_error(self):
        for name in GIVEN + INDEX:
            with self.assertRaises(ValueError):
                raise getattr(errors, name)(7)
        for name in NOTHING:
            with self.assertRaises(errors.SteamError):
                raise getattr(errors, name)()


if __name__ == "__main__":
    unittest.main()
