"""Points 2 and 4, and the interface of sealpress.errors."""

import unittest

from sealpress import errors

FIELDS = {
    "NoSign": ["at"],
    "NoCode": ["at"],
    "Unread": ["at"],
    "Unended": [],
    "NoPage": ["at"],
    "NoName": ["name"],
    "NoSheet": ["at"],
    "Twice": ["name"],
    "TooMany": [],
    "Unknown": ["name"],
    "RingOver": ["ring"],
    "Ringed": ["ring"],
    "NoElder": ["name"],
    "Astray": ["place", "at"],
    "NoPlace": ["name", "place"],
    "Unlike": ["what", "one", "other"],
    "LeftOpen": ["place"],
    "NoValue": ["name"],
    "NoKind": ["name"],
    "NoRow": [],
}


class Unshown:
    """A thing that can't be shown as a text."""

    def __repr__(self):
        raise RuntimeError("not to be shown")


class ErrorsTest(unittest.TestCase):
    def test_seal_error_stands_straight_under_value_error(self):
        self.assertEqual(errors.SealError.__bases__, (ValueError,))

    def test_each_refusal_stands_straight_under_seal_error(self):
        for name in FIELDS:
            with self.subTest(name):
                self.assertEqual(getattr(errors, name).__bases__, (errors.SealError,))

    def test_there_are_no_other_classes(self):
        found = [name for name, thing in vars(errors).items() if isinstance(thing, type)]
        self.assertEqual(sorted(found), sorted(list(FIELDS) + ["SealError"]))

    def test_fields_are_kept_by_their_names_in_their_order(self):
        for name, fields in FIELDS.items():
            with self.subTest(name):
                # one list for each field: the very thing that was handed in is to be kept
                things = [[number] for number, field in enumerate(fields)]
                error = getattr(errors, name)(*(things or ["words"]))
                for field, thing in zip(fields, things):
                    self.assertIs(getattr(error, field), thing)

    def test_fields_of_the_kinds_that_are_told(self):
        self.assertEqual(errors.NoSign(3).at, 3)
        self.assertEqual(errors.Twice("top").name, "top")
        astray = errors.Astray(([1, 0], 4), 7)
        self.assertEqual((astray.place, astray.at), (([1, 0], 4), 7))
        unlike = errors.Unlike(("if", "x"), ([0], 1), ([1], 2))
        self.assertEqual((unlike.what, unlike.one, unlike.other), (("if", "x"), ([0], 1), ([1], 2)))

    def test_each_is_made_of_just_its_fields_or_of_one_text(self):
        for name, fields in FIELDS.items():
            with self.subTest(name):
                made = getattr(errors, name)
                if fields:
                    self.assertRaises(TypeError, made, *(["x"] * (len(fields) + 1)))
                    self.assertRaises(TypeError, made, *(["x"] * (len(fields) - 1)))
                else:
                    self.assertEqual(str(made("some words")), "some words")

    def test_no_name_is_made_of_whatever_is_no_name(self):
        deep = []
        for number in range(5000):
            deep = [deep]
        for thing in (None, True, 10 ** 5000, [], {}, "", deep, Unshown()):
            self.assertIs(errors.NoName(thing).name, thing)

    def test_each_can_be_raised_and_taken_as_a_value_error(self):
        for name, fields in FIELDS.items():
            with self.subTest(name):
                with self.assertRaises(ValueError) as caught:
                    raise getattr(errors, name)(*["x" for field in fields or ["words"]])
                self.assertIsInstance(caught.exception, errors.SealError)


if __name__ == "__main__":
    unittest.main()
