"""Point 15: the mixers of a table, and how a copy could be mixed."""

import random
import unittest

from copykin.clashes import clash
from copykin.errors import KinError, NoName, NoTable
from copykin.mixing import mixed, mixers
from tests.things import (
    CLASHES, FOUR, NO_NAMES, Thing, at_random, figures, frozen, grown_at_random, letters, many, named, no_tables,
    shuffled, told_trees,
)


def has_clash(table):
    """Whether two places are read all four ways, by the words of the document."""
    count = len(table[0][1]) if table else 0
    return any(len({(readings[one], readings[other]) for name, readings in table}) == 4
               for one in range(count) for other in range(one))


def mixers_by_words(table):
    if not has_clash(table):
        return []
    return sorted(name for name, readings in table if not has_clash([copy for copy in table if copy[0] != name]))


def mixed_by_words(table, name):
    copies = dict(table)
    readings = copies.pop(name)
    return sorted((place, one, other) for place in range(1, len(readings)) for one in copies for other in copies
                  if one != other and all(readings[below] == copies[one][below] for below in range(place))
                  and all(readings[above] == copies[other][above] for above in range(place, len(readings))))


class Mixers(unittest.TestCase):
    def test_without_a_clash(self):
        for words, table, wanted in told_trees():
            with self.subTest(words=words):
                self.assertEqual(mixers(table), [])
        self.assertEqual(mixers([]), [])
        self.assertEqual(mixers(named("")), [])
        self.assertEqual(mixers(many(40, 0)), [])

    def test_each_of_four(self):
        self.assertEqual(mixers(named("00", "01", "10", "11")), ["a", "b", "c", "d"])
        self.assertEqual(mixers([("d", (0, 0)), ("c", (0, 1)), ("b", (1, 0)), ("a", (1, 1))]), ["a", "b", "c", "d"])

    def test_those_of_a_kind_with_two_copies_are_none(self):
        self.assertEqual(mixers(named("00", "01", "10", "11", "11")), ["a", "b", "c"])
        self.assertEqual(mixers(named("00", "01", "10", "10", "11", "11")), ["a", "b"])
        self.assertEqual(mixers(named("00", "00", "01", "10", "10", "11", "11")), ["c"])

    def test_perhaps_none(self):
        self.assertEqual(mixers(named("00", "00", "01", "01", "10", "10", "11", "11")), [])
        # Each of two pairs of places clashes, and no copy alone undoes both.
        table = named("0000", "0100", "1000", "1100", "0001", "0010", "0011")
        self.assertEqual(mixers(table), [])
        self.assertEqual(mixers([copy for copy in table if copy[0] != "g"]), ["b", "c", "d"])

    def test_a_copy_that_undoes_one_clash_but_not_another(self):
        table = named("000", "010", "100", "110", "111", "001")
        self.assertEqual(mixers(table), mixers_by_words(table))
        self.assertNotEqual(mixers(table), sorted(clash(table)[2]))

    def test_the_tables_that_clash(self):
        for table, wanted in CLASHES:
            self.assertEqual(mixers(table), mixers_by_words(table))

    def test_by_the_words_of_the_document(self):
        chance = random.Random(307)
        found = {}
        for turn in range(1500):
            if turn % 2:
                table = at_random(chance, chance.randrange(0, 9), chance.randrange(0, 6))
            else:
                table = grown_at_random(chance, chance.randrange(3, 9), chance.randrange(1, 7))
                table += [("zz", tuple(chance.randrange(2) for place in table[0][1]))]
            told = mixers(table)
            self.assertEqual(told, mixers_by_words(table))
            kind = (has_clash(table), len(told))
            found[kind] = found.get(kind, 0) + 1
        for kind in [(False, 0), (True, 0), (True, 1), (True, 2), (True, 3), (True, 4)]:
            self.assertGreater(found[kind], 20, kind)

    def test_sorted_in_a_new_list(self):
        table = [("d", (0, 0)), ("b", (0, 1)), ("c", (1, 0)), ("a", (1, 1))]
        told = mixers(table)
        self.assertIs(type(told), list)
        told.append("x")
        told.reverse()
        self.assertEqual(mixers(table), ["a", "b", "c", "d"])
        mixers([]).append("x")
        self.assertEqual(mixers([]), [])
        for order in [sorted(table), table[::-1]]:
            self.assertEqual(mixers(order), ["a", "b", "c", "d"])

    def test_large_tables(self):
        chance = random.Random(311)
        table = grown_at_random(chance, 39, 60)
        self.assertEqual(mixers(table), [])
        for turn in range(5):
            whole = table + [("zz", tuple(chance.randrange(2) for place in range(60)))]
            self.assertIn("zz", mixers(whole))
        self.assertEqual(mixers(many(40, 60)), [])

    def test_the_table_stays(self):
        for table in [named("00", "01", "10", "11"), list(FOUR), many(40, 60)]:
            before = frozen(table)
            mixers(table)
            self.assertEqual(frozen(table), before)

    def test_by_its_name(self):
        self.assertEqual(mixers(table=named("00", "01", "10", "11", "11")), ["a", "b", "c"])


class Mixed(unittest.TestCase):
    def test_one_way(self):
        table = named("0011", "0000", "1111")
        self.assertEqual(mixed(table, "a"), [(2, "b", "c")])
        self.assertEqual(mixed(table, "b"), [])
        self.assertEqual(mixed(table, "c"), [])

    def test_several_places(self):
        self.assertEqual(mixed(named("0010", "0011", "1110"), "a"), [(2, "b", "c"), (3, "b", "c")])
        self.assertEqual(mixed(named("000", "000", "000"), "a"),
                         [(1, "b", "c"), (1, "c", "b"), (2, "b", "c"), (2, "c", "b")])

    def test_the_edges_of_the_places(self):
        # Place 1 takes but the first reading of the one; the last place but the last reading of the other.
        self.assertEqual(mixed(named("0111", "0000", "1111"), "a"), [(1, "b", "c")])
        self.assertEqual(mixed(named("0001", "0000", "1111"), "a"), [(3, "b", "c")])
        self.assertEqual(mixed(named("01", "00", "11"), "a"), [(1, "b", "c")])

    def test_a_copy_that_reads_as_another_one(self):
        self.assertEqual(mixed(named("01", "01"), "a"), [])
        self.assertEqual(mixed(named("01", "01", "10"), "a"), [])
        self.assertEqual(mixed(named("01", "01", "11"), "a"), [(1, "b", "c")])
        self.assertEqual(mixed(named("01", "01", "00"), "a"), [(1, "c", "b")])
        self.assertEqual(mixed(named("011", "011", "000", "111"), "a"),
                         [(1, "b", "d"), (1, "c", "b"), (1, "c", "d"), (2, "b", "d")])

    def test_none_or_one_place(self):
        for name in ["a", "b", "c"]:
            self.assertEqual(mixed(named("", "", ""), name), [])
            self.assertEqual(mixed(named("0", "0", "0"), name), [])
            self.assertEqual(mixed(named("0", "1", "1"), name), [])

    def test_none_or_one_other_copy(self):
        self.assertEqual(mixed(named("010"), "a"), [])
        self.assertEqual(mixed(named("010", "010"), "a"), [])

    def test_where_the_table_clashes(self):
        table = named("00", "01", "10", "11")
        self.assertEqual([mixed(table, name) for name in "abcd"],
                         [[(1, "b", "c")], [(1, "a", "d")], [(1, "d", "a")], [(1, "c", "b")]])

    def test_sorted_by_place_and_names(self):
        table = [("z", figures("000")), ("b", figures("001")), ("abc", figures("100")), ("c", figures("000")),
                 ("ab", figures("010")), ("m", figures("000"))]
        told = mixed(table, "m")
        self.assertEqual(told, mixed_by_words(table, "m"))
        self.assertEqual(told, sorted(told))
        self.assertEqual(len(told), len(set(told)))
        self.assertIn((1, "ab", "abc"), told)

    def test_by_the_words_of_the_document(self):
        chance = random.Random(313)
        found = 0
        for turn in range(600):
            make = chance.choice([at_random, grown_at_random])
            table = make(chance, chance.randrange(1, 9), chance.randrange(0, 7))
            for name, readings in table:
                told = mixed(table, name)
                self.assertEqual(told, mixed_by_words(table, name))
                found += len(told)
        self.assertGreater(found, 1000)

    def test_whatever_the_order(self):
        chance = random.Random(317)
        for turn in range(30):
            table = at_random(chance, 8, 4)
            moved = shuffled(chance, table)
            for name, readings in table:
                self.assertEqual(mixed(moved, name), mixed(table, name))

    def test_the_most_that_there_can_be(self):
        table = [(letters(number), (0, 1) * 30) for number in range(40)]
        told = mixed(table, "ab")
        self.assertEqual(len(told), 59 * 39 * 38)
        self.assertEqual(told[0], (1, "aa", "ac"))
        self.assertEqual(told[-1], (59, letters(39), letters(38)))
        self.assertEqual(told, sorted(told))

    def test_in_new_lists_and_tuples(self):
        table = named("0011", "0000", "1111")
        told = mixed(table, "a")
        self.assertIs(type(told), list)
        self.assertIs(type(told[0]), tuple)
        self.assertIsNot(mixed(table, "a")[0], told[0])
        told.clear()
        self.assertEqual(mixed(table, "a"), [(2, "b", "c")])
        mixed(table, "b").append("x")
        self.assertEqual(mixed(table, "b"), [])

    def test_the_table_stays(self):
        for table in [named("00", "01", "10", "11"), list(FOUR)]:
            before = frozen(table)
            for name, readings in table:
                mixed(table, name)
            self.assertEqual(frozen(table), before)

    def test_by_their_names(self):
        self.assertEqual(mixed(table=named("0011", "0000", "1111"), name="a"), [(2, "b", "c")])


class Refusals(unittest.TestCase):
    def test_no_table_ahead_of_no_name(self):
        for number, thing in enumerate(no_tables()):
            with self.subTest(number=number):
                with self.assertRaises(NoTable) as caught:
                    mixers(thing)
                self.assertIsInstance(caught.exception, KinError)
                for name in ["a", "zz", "A", "", None, True, 0, Thing()]:
                    self.assertRaises(NoTable, mixed, thing, name)

    def test_no_name(self):
        for table in [[], FOUR, named("00", "01", "10", "11"), named(""), many(40, 60)]:
            before = frozen(table)
            for number, name in enumerate(NO_NAMES + ["z", "abcdefg", "bbb", "zz"]):
                with self.subTest(number=number):
                    with self.assertRaises(NoName) as caught:
                        mixed(table, name)
                    self.assertIsInstance(caught.exception, KinError)
            self.assertEqual(frozen(table), before)


if __name__ == "__main__":
    unittest.main()
