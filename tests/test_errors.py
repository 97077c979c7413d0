import unittest

from cablehouse import errors
from refusals import NAMES, check_kind


class TestRefusals(unittest.TestCase):
    def test_cable_error_stands_right_under_value_error(self):
        self.assertEqual(errors.CableError.__bases__, (ValueError,))

    def test_there_are_fifteen_right_under_cable_error(self):
        self.assertEqual(len(NAMES), 15)
        for name in NAMES:
            with self.subTest(name):
                self.assertEqual(getattr(errors, name).__bases__, (errors.CableError,))

    def test_those_with_a_field_at_are_made_of_it(self):
        for name in ("NoReading", "NoSetting"):
            for at in (0, 7, 1400):
                with self.subTest(name, at=at):
                    refusal = getattr(errors, name)(at)
                    self.assertEqual(refusal.at, at)
                    check_kind(self, refusal, name)

    def test_too_garbled_is_made_of_its_places(self):
        for places in ([], [0, 3, 12]):
            refusal = errors.TooGarbled(places)
            self.assertEqual(refusal.places, places)
            self.assertIs(type(refusal.places), list)
            check_kind(self, refusal, "TooGarbled")

    def test_places_are_the_refusal_s_own(self):
        places = [1, 2, 3]
        refusal = errors.TooGarbled(places)
        places.append(4)
        self.assertEqual(refusal.places, [1, 2, 3])
        refusal.places.clear()
        self.assertEqual(places, [1, 2, 3, 4])

    def test_the_others_are_made_of_a_text(self):
        for name in NAMES:
            if name not in ("NoReading", "NoSetting", "TooGarbled"):
                with self.subTest(name):
                    refusal = getattr(errors, name)("some words")
                    self.assertEqual(str(refusal), "some words")
                    check_kind(self, refusal, name)

    def test_each_is_told_apart_when_raised(self):
        for name in NAMES:
            given = [1] if name == "TooGarbled" else 1 if name in ("NoReading", "NoSetting") else "a text"
            with self.subTest(name):
                with self.assertRaises(ValueError) as caught:
                    raise getattr(errors, name)(given)
                check_kind(self, caught.exception, name)


if __name__ == "__main__":
    unittest.main()
