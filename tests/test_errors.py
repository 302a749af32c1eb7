"""The error classes: where they stand, what they are made with, their attributes."""

import unittest

from splitnumbers import errors

MADE_WITH = {
    "BadNumber": ("word",), "BadRatio": ("word",), "BadNumbers": ("place",), "BadSet": ("place",),
    "BadRows": ("place",), "BadSigns": ("place",), "BadTolls": ("place",), "BadShares": ("place",),
    "BadRounding": ("place",), "BadMix": ("place",), "BadTable": ("place",), "BadSpot": ("word",),
    "BadStretch": ("place",), "BadDeed": ("word",), "OtherSize": ("due",), "NotServing": ("part",),
    "NotFirm": ("part",), "NotMet": ("word",), "NotFitting": ("word",), "NothingBack": (), "TooMany": ("limit",),
    "BadText": ("line", "word"),
}
VALUES = {"word": "ratio", "place": 3, "due": 4, "part": (0, 2), "limit": 7, "line": 2}


class ErrorsTest(unittest.TestCase):
    def test_trouble_is_under_exception(self):
        self.assertEqual(errors.Trouble.__bases__, (Exception,))

    def test_each_class_and_its_attributes(self):
        for name, words in MADE_WITH.items():
            kind = getattr(errors, name)
            self.assertEqual(kind.__bases__, (errors.Trouble,), name)
            self.assertEqual(kind.__module__, "splitnumbers.errors")
            made = kind(*[VALUES[word] for word in words])
            self.assertEqual(vars(made), {word: VALUES[word] for word in words})

    def test_arguments_are_needed(self):
        for name, words in MADE_WITH.items():
            if words:
                with self.assertRaises(TypeError):
                    getattr(errors, name)()

    def test_errors_are_caught_by_their_own_class_alone(self):
        with self.assertRaises(errors.BadSet):
            try:
                raise errors.BadSet(1)
            except (errors.BadSigns, errors.BadRows, errors.TooMany):
                self.fail("caught by another class")

    def test_an_error_can_be_told(self):
        self.assertIn("rows", str(errors.BadText(3, "rows")))


if __name__ == "__main__":
    unittest.main()
