import unittest

from inkform import errors

CLASSES = ("NoLine", "NoPart", "NoDrawing", "TooNarrow", "NoFormula", "NoRow", "NoName", "NoDeed")


class Errors(unittest.TestCase):
    def test_ink_error_is_a_value_error(self):
        self.assertTrue(issubclass(errors.InkError, ValueError))

    def test_each_is_taken_by_ink_error_and_value_error(self):
        for word in CLASSES:
            made = getattr(errors, word)
            for taker in (errors.InkError, ValueError):
                with self.subTest(word=word, taker=taker.__name__), self.assertRaises(taker):
                    raise made("some words")

    def test_none_is_taken_by_another_one(self):
        for word in CLASSES:
            for other in CLASSES:
                with self.subTest(word=word, other=other):
                    under = issubclass(getattr(errors, word), getattr(errors, other))
                    self.assertEqual(under, word == other)

    def test_ink_error_is_taken_by_none_of_them(self):
        for word in CLASSES:
            self.assertFalse(issubclass(errors.InkError, getattr(errors, word)))


if __name__ == "__main__":
    unittest.main()
