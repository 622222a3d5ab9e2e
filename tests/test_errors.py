"""errors.py: [0.6]."""

import inspect
import unittest

from lowerwords import errors
from lowerwords.errors import WordError

ATTRIBUTES = {
    "BadLetters": (),
    "BadLetter": (),
    "BadBit": (),
    "BadNumber": ("most",),
    "BadHeap": ("index",),
    "BadPlaces": ("index",),
    "BadWord": ("index",),
    "BadOrder": (),
    "BadChoice": ("index", "what"),
    "OtherLetters": ("letters",),
    "EmptyChoice": (),
    "TooMany": ("most",),
    "NotInCode": ("heap",),
    "BadText": ("index",),
    "BadSubstitution": ("what", "index"),
    "NotTriangular": ("letter",),
    "NotClosed": ("heap", "missing"),
    "NotFalling": ("heap", "missing"),
    "BadForms": ("index", "what"),
    "NotLeast": (),
    "NotMade": ("heap",),
    "BadBlocks": ("index",),
    "NotMember": ("letter", "far"),
    "NoneNear": (),
    "BadBits": ("index",),
    "NotData": (),
    "BadMessage": (),
    "BadHalves": ("what",),
    "BadEdit": ("index",),
    "BadGoal": ("index",),
    "Held": ("index", "heap"),
    "NothingDone": (),
}


class Errors(unittest.TestCase):
    def test_word_error_stands_directly_under_value_error(self):
        self.assertEqual(WordError.__bases__, (ValueError,))

    def test_each_stands_directly_under_word_error_and_under_no_other(self):
        for name in ATTRIBUTES:
            with self.subTest(name):
                self.assertEqual(getattr(errors, name).__bases__, (WordError,))

    def test_all_errors_are_those_of_the_interface(self):
        found = {name for name, thing in vars(errors).items() if inspect.isclass(thing)}
        self.assertEqual(found, set(ATTRIBUTES) | {"WordError"})
        for name in found:
            self.assertEqual(getattr(errors, name).__module__, "lowerwords.errors")

    def test_each_keeps_what_it_is_made_with(self):
        for name, attributes in ATTRIBUTES.items():
            values = [object() for _ in attributes]
            told = dict(zip(attributes, values))
            with self.subTest(name):
                self.assertEqual(vars(getattr(errors, name)(*values)), told)
                self.assertEqual(vars(getattr(errors, name)(**told)), told)

    def test_each_takes_just_its_attributes(self):
        for name, attributes in ATTRIBUTES.items():
            if not attributes:
                continue
            with self.subTest(name):
                with self.assertRaises(TypeError):
                    getattr(errors, name)(*[0 for _ in attributes], 0)
                with self.assertRaises(TypeError):
                    getattr(errors, name)()

    def test_each_can_be_caught_by_its_name_and_as_word_error(self):
        for name, attributes in ATTRIBUTES.items():
            error = getattr(errors, name)
            for caught in (error, WordError, ValueError):
                with self.subTest(name):
                    with self.assertRaises(caught):
                        raise error(*[0 for _ in attributes])


if __name__ == "__main__":
    unittest.main()
