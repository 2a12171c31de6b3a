"""The classes of copykin.errors, how each is made, and what stands under what."""

import unittest

from copykin.errors import (
    Clash, KinError, NoFrame, NoName, NoPlace, NoReading, NoRow, NoTable, NoTelling, NoText, Torn, Twice,
)

OF_A_TEXT = [NoTable, NoName, NoPlace, NoReading, NoTelling, NoFrame, Twice, NoRow]
ALL = OF_A_TEXT + [NoText, Clash, Torn]


class Errors(unittest.TestCase):
    def test_any_refusal_is_a_value_error(self):
        self.assertTrue(issubclass(KinError, ValueError))
        with self.assertRaises(ValueError):
            raise KinError("words")

    def test_each_stands_under_kin_error_and_none_under_another(self):
        self.assertEqual(len(ALL), 11)
        for one in ALL:
            self.assertTrue(issubclass(one, KinError), one)
            self.assertTrue(issubclass(one, ValueError), one)
            self.assertIsNot(one, KinError)
            for other in ALL:
                self.assertEqual(issubclass(one, other), one is other, (one, other))

    def test_their_names(self):
        names = [error.__name__ for error in ALL]
        self.assertEqual(names, ["NoTable", "NoName", "NoPlace", "NoReading", "NoTelling", "NoFrame", "Twice", "NoRow",
                                 "NoText", "Clash", "Torn"])

    def test_those_made_of_a_text(self):
        for error in OF_A_TEXT:
            with self.assertRaises(error) as caught:
                raise error("words")
            self.assertIsInstance(caught.exception, KinError)
            self.assertEqual(str(caught.exception), "words")

    def test_no_text_has_a_row(self):
        self.assertEqual(NoText("words").row, 0)
        self.assertEqual(NoText("words", 3).row, 3)
        self.assertEqual(NoText("words", row=7).row, 7)
        self.assertEqual(str(NoText("words", 3)), "words")
        with self.assertRaises(NoText) as caught:
            raise NoText("words", 2)
        self.assertEqual(caught.exception.row, 2)

    def test_each_no_text_has_its_own_row(self):
        one, other = NoText("words", 1), NoText("words", 2)
        self.assertEqual((one.row, other.row, NoText("words").row), (1, 2, 0))

    def test_clash_is_made_of_its_fields(self):
        for error in [Clash(1, 4, ("a", "b", "c", "d")), Clash(one=1, other=4, names=("a", "b", "c", "d"))]:
            self.assertEqual((error.one, error.other, error.names), (1, 4, ("a", "b", "c", "d")))
        with self.assertRaises(Clash) as caught:
            raise Clash(0, 1, ("d", "c", "b", "a"))
        self.assertEqual(caught.exception.names, ("d", "c", "b", "a"))

    def test_torn_is_made_of_its_fields(self):
        for error in [Torn((2, 0), (5, 1)), Torn(one=(2, 0), other=(5, 1))]:
            self.assertEqual((error.one, error.other), ((2, 0), (5, 1)))
        with self.assertRaises(Torn) as caught:
            raise Torn((3, 1), (3, 1))
        self.assertEqual((caught.exception.one, caught.exception.other), ((3, 1), (3, 1)))


if __name__ == "__main__":
    unittest.main()
