"""Promise 2, the refusals: all under BookError, none under another one, and their fields."""

import unittest

from thinbook import errors

REFUSALS = [
    "NoNumber", "NoRule", "Backward", "Gone", "NoAsk", "NoAnswer",
    "NoName", "NoMark", "TooMany", "NoHouse", "NoText", "NoRow",
]
FIELDS = {"Backward": "last", "Gone": "edge", "NoText": "line"}


def made(name):
    kind = getattr(errors, name)
    return kind(-7) if name in FIELDS else kind("words")


class Classes(unittest.TestCase):
    def test_book_error_is_a_value_error(self):
        self.assertTrue(issubclass(errors.BookError, ValueError))
        self.assertFalse(hasattr(errors.BookError("words"), "last"))

    def test_just_these_stand_under_book_error(self):
        under = [name for name, thing in vars(errors).items()
                 if isinstance(thing, type) and issubclass(thing, errors.BookError) and name != "BookError"]
        self.assertEqual(sorted(under), sorted(REFUSALS))

    def test_none_stands_under_another_one(self):
        for one in REFUSALS:
            for other in REFUSALS:
                if one != other:
                    with self.subTest(one=one, other=other):
                        self.assertFalse(issubclass(getattr(errors, one), getattr(errors, other)))

    def test_each_is_taken_as_book_error_and_as_itself(self):
        for name in REFUSALS:
            with self.subTest(name=name):
                with self.assertRaises(errors.BookError) as caught:
                    raise made(name)
                self.assertIs(type(caught.exception), getattr(errors, name))


class Fields(unittest.TestCase):
    def test_fields_are_set_when_it_is_made(self):
        for name, field in FIELDS.items():
            for number in (0, -7, 10 ** 59):
                with self.subTest(name=name, number=number):
                    self.assertEqual(getattr(getattr(errors, name)(number), field), number)

    def test_each_has_words(self):
        for name in REFUSALS:
            with self.subTest(name=name):
                self.assertNotEqual(str(made(name)), "")


if __name__ == "__main__":
    unittest.main()
