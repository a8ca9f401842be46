"""The refusals: where each class stands, and what it keeps."""

import unittest

from outlineward.errors import NoCount, NoName, NoSet, NoText, OutlineError, TooMany, TooWide

REFUSALS = [NoText, NoName, NoCount, NoSet, TooWide, TooMany]


class Errors(unittest.TestCase):
    def test_outline_error_stands_under_value_error(self):
        self.assertTrue(issubclass(OutlineError, ValueError))
        self.assertNotIn(OutlineError, REFUSALS)

    def test_each_stands_under_outline_error(self):
        for refusal in REFUSALS:
            self.assertTrue(issubclass(refusal, OutlineError), refusal)
            self.assertFalse(issubclass(OutlineError, refusal), refusal)

    def test_none_stands_under_another(self):
        for refusal in REFUSALS:
            for other in REFUSALS:
                if refusal is not other:
                    self.assertFalse(issubclass(refusal, other), (refusal, other))

    def test_names(self):
        names = [refusal.__name__ for refusal in REFUSALS]
        self.assertEqual(names, ["NoText", "NoName", "NoCount", "NoSet", "TooWide", "TooMany"])

    def test_made_of_one_text(self):
        for made in [OutlineError, NoName, NoCount, NoSet, TooWide, TooMany]:
            self.assertEqual(str(made("some words")), "some words")

    def test_no_text_keeps_its_line(self):
        for line in [1, 2, 8001]:
            self.assertEqual(NoText(line).line, line)
            self.assertIs(int, type(NoText(line).line))

    def test_no_text_line_when_taken(self):
        with self.assertRaises(OutlineError) as taken:
            raise NoText(7)
        self.assertEqual(taken.exception.line, 7)

    def test_each_is_taken_as_itself(self):
        for refusal in REFUSALS:
            with self.assertRaises(refusal):
                raise refusal(3 if refusal is NoText else "words")


if __name__ == "__main__":
    unittest.main()
