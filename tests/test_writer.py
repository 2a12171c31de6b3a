"""Point 6, the half that speaks of writing."""

import unittest

from copykin.errors import NoTable
from copykin.writer import readings_text, written
from tests.things import FOUR, frozen, many, no_tables


class ReadingsText(unittest.TestCase):
    def test_figures_in_their_order(self):
        self.assertEqual(readings_text((0,)), "0")
        self.assertEqual(readings_text((1,)), "1")
        self.assertEqual(readings_text((0, 0, 1)), "001")
        self.assertEqual(readings_text((1, 0, 0)), "100")
        self.assertEqual(readings_text((0, 1, 1, 0, 1)), "01101")

    def test_no_places(self):
        self.assertEqual(readings_text(()), "-")

    def test_sixty_places(self):
        self.assertEqual(readings_text((0, 1, 1) * 20), "011" * 20)

    def test_by_its_name(self):
        self.assertEqual(readings_text(readings=(1, 0)), "10")


class Written(unittest.TestCase):
    def test_the_table_without_copies(self):
        self.assertEqual(written([]), "")

    def test_one_row(self):
        self.assertEqual(written([("a", (0, 1))]), "a 01")
        self.assertEqual(written([("abcdefgh", (1,))]), "abcdefgh 1")
        self.assertEqual(written([("a", ())]), "a -")

    def test_rows_in_the_order_of_the_names(self):
        text = "a 1001\nabcdefgh 1101\nbb 1100\nd 1001"
        for turn in range(4):
            self.assertEqual(written(FOUR[turn:] + FOUR[:turn]), text)
        self.assertEqual(written(list(reversed(FOUR))), text)

    def test_in_the_order_of_the_names_and_not_of_the_rows(self):
        # A blank sorts ahead of every letter, so rows sort as their names; readings never decide.
        self.assertEqual(written([("ab", (0,)), ("b", (0,)), ("a", (1,))]), "a 1\nab 0\nb 0")

    def test_many_rows_without_places(self):
        self.assertEqual(written([("c", ()), ("a", ()), ("b", ())]), "a -\nb -\nc -")

    def test_the_largest_table(self):
        table = many(40, 60)
        text = written(table)
        self.assertIs(type(text), str)
        rows = text.split("\n")
        self.assertEqual(len(rows), 40)
        for row, copy in zip(rows, reversed(table)):
            self.assertEqual(row, copy[0] + " " + "".join(str(reading) for reading in copy[1]))

    def test_what_is_handed_in_stays_as_it_was(self):
        for table in [[], list(FOUR), many(40, 60)]:
            before = frozen(table)
            written(table)
            self.assertEqual(frozen(table), before)

    def test_a_table_changed_behind_a_call_is_written_as_it_is_then(self):
        table = list(FOUR)
        written(table)
        table[:] = [("z", (1,))]
        self.assertEqual(written(table), "z 1")

    def test_what_is_no_table_is_refused(self):
        for number, thing in enumerate(no_tables()):
            with self.subTest(number=number):
                self.assertRaises(NoTable, written, thing)

    def test_by_its_name(self):
        self.assertEqual(written(table=[("a", (0,))]), "a 0")


if __name__ == "__main__":
    unittest.main()
