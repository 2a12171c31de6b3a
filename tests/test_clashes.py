"""Point 7: two places that clash, and the clash of a table."""

import itertools
import random
import unittest

from copykin.clashes import clash, places_clash
from copykin.errors import NoPlace, NoTable
from tests.things import (
    CLASHES, FOUR, NO_PLACES_OF_ANY, Thing, at_random, frozen, grown_at_random, many, named, no_tables, shuffled,
    told_trees,
)

WAYS = [(0, 0), (0, 1), (1, 0), (1, 1)]


def clash_by_hand(table):
    """The clash as the document's words tell it, all sought through."""
    count = len(table[0][1]) if table else 0
    for one, other in sorted(itertools.combinations(range(count), 2)):
        names = []
        for way in WAYS:
            names += sorted(name for name, readings in table if (readings[one], readings[other]) == way)[:1]
        if len(names) == 4:
            return (one, other, tuple(names))
    return None


class PlacesClash(unittest.TestCase):
    def test_all_four_ways(self):
        for order in itertools.permutations(WAYS):
            table = [(name, readings) for name, readings in zip("abcd", order)]
            self.assertIs(places_clash(table, 0, 1), True)
            self.assertIs(places_clash(table, 1, 0), True)

    def test_each_of_the_four_missing_in_turn(self):
        for missing in WAYS:
            others = [way for way in WAYS if way != missing]
            for order in itertools.product(others, repeat=4):
                table = [(name, readings) for name, readings in zip("abcd", order)]
                self.assertIs(places_clash(table, 0, 1), False)
                self.assertIs(places_clash(table, 1, 0), False)
                self.assertIsNone(clash(table))

    def test_one_place_twice(self):
        for table in [named("00", "01", "10", "11"), FOUR, many(40, 60), named("0"), named("0", "1")]:
            for place in range(len(table[0][1])):
                self.assertIs(places_clash(table, place, place), False)

    def test_just_the_places_that_are_asked_for(self):
        table = named("0000", "0101", "1010", "1110")
        told = [(one, other) for one in range(4) for other in range(4) if places_clash(table, one, other)]
        self.assertEqual(told, [(0, 1), (1, 0), (1, 2), (2, 1)])

    def test_every_two_places_of_large_tables(self):
        chance = random.Random(7)
        for table in [many(40, 60), at_random(chance, 40, 60), at_random(chance, 5, 60), grown_at_random(chance, 40, 60)]:
            for one, other in itertools.product(range(0, 60, 7), range(60)):
                wanted = {(readings[one], readings[other]) for name, readings in table} == set(WAYS)
                self.assertIs(places_clash(table, one, other), wanted)

    def test_the_table_stays_as_it_was(self):
        for table in [list(FOUR), many(40, 60)]:
            before = frozen(table)
            places_clash(table, 1, 2)
            self.assertRaises(NoPlace, places_clash, table, 1, 60)
            self.assertEqual(frozen(table), before)

    def test_by_their_names(self):
        self.assertIs(places_clash(table=named("00", "01", "10", "11"), one=1, other=0), True)


class PlacesClashRefusals(unittest.TestCase):
    def test_no_table_goes_first(self):
        for number, thing in enumerate(no_tables()):
            with self.subTest(number=number):
                for one, other in [(0, 1), (0, 0), (99, 0), (None, True), (-1, "0"), (Thing(), Thing())]:
                    self.assertRaises(NoTable, places_clash, thing, one, other)

    def test_what_is_no_place(self):
        for table in [FOUR, many(40, 60), named("00", "01", "10", "11"), named("0")]:
            count = len(table[0][1])
            wrong = NO_PLACES_OF_ANY + [count, count + 1, -1, -count, 10 ** 9, True, False, None, "0", [0], (0,), {}]
            for place in wrong:
                self.assertRaises(NoPlace, places_clash, table, place, 0)
                self.assertRaises(NoPlace, places_clash, table, 0, place)
                self.assertRaises(NoPlace, places_clash, table, count - 1, place)
                self.assertRaises(NoPlace, places_clash, table, place, place)
                self.assertRaises(NoPlace, places_clash, table, place, None)
                self.assertRaises(NoPlace, places_clash, table, None, place)

    def test_a_truth_is_no_place_though_the_table_has_0_and_1(self):
        table = named("00", "01", "10", "11")
        for one, other in itertools.product([0, 1, True, False], repeat=2):
            if isinstance(one, bool) or isinstance(other, bool):
                self.assertRaises(NoPlace, places_clash, table, one, other)

    def test_tables_without_places(self):
        for table in [[], named(""), many(40, 0)]:
            for one, other in itertools.product([0, 1, -1, None, True], repeat=2):
                self.assertRaises(NoPlace, places_clash, table, one, other)


class Clashes(unittest.TestCase):
    def test_the_clash_of_each(self):
        for table, wanted in CLASHES:
            self.assertEqual(clash(table), wanted)
            self.assertEqual(clash(table), clash_by_hand(table))

    def test_its_kinds(self):
        told = clash(CLASHES[0][0])
        self.assertIs(type(told), tuple)
        self.assertIs(type(told[0]), int)
        self.assertIs(type(told[1]), int)
        self.assertIs(type(told[2]), tuple)
        for name in told[2]:
            self.assertIs(type(name), str)

    def test_whatever_the_order_of_the_copies(self):
        for table, wanted in CLASHES:
            for order in itertools.islice(itertools.permutations(table), 200):
                self.assertEqual(clash(list(order)), wanted)
            self.assertEqual(clash(table[::-1]), wanted)

    def test_the_first_two_places_of_several_that_clash(self):
        rows = ["0" * 6, "1" * 6]
        self.assertEqual(clash(named(*rows, "010101", "101010")), (0, 1, ("a", "c", "d", "b")))
        self.assertEqual(clash(named(*rows, "001010", "110101")), (0, 2, ("a", "c", "d", "b")))
        self.assertEqual(clash(named(*rows, "000101", "111010")), (0, 3, ("a", "c", "d", "b")))
        self.assertEqual(clash(named(*rows, "000001", "111110")), (0, 5, ("a", "c", "d", "b")))
        # By one first, not by other: (0, 3) goes ahead of (1, 2).
        self.assertEqual(clash(named("0000", "0010", "0100", "0110", "1000", "1001", "0001"))[:2], (0, 3))

    def test_the_last_two_places(self):
        table = [(name, (0,) * 58 + way) for name, way in zip(["d", "c", "b", "a"], WAYS)]
        self.assertEqual(clash(table), (58, 59, ("d", "c", "b", "a")))
        table = [(name, way[:1] + (0,) * 58 + way[1:]) for name, way in zip(["d", "c", "b", "a"], WAYS)]
        self.assertEqual(clash(table), (0, 59, ("d", "c", "b", "a")))

    def test_the_first_name_of_each_kind(self):
        table = [(letter + name, way) for name, way in zip(["q", "p", "s", "r"], WAYS) for letter in "zyx"]
        self.assertEqual(clash(table), (0, 1, ("xq", "xp", "xs", "xr")))

    def test_a_shorter_name_goes_ahead_of_the_longer_that_it_begins(self):
        table = [("aa", (0, 0)), ("a", (0, 0)), ("b", (0, 1)), ("c", (1, 0)), ("dd", (1, 1)), ("d", (1, 1))]
        self.assertEqual(clash(table), (0, 1, ("a", "b", "c", "d")))

    def test_none_where_none_clash(self):
        for words, table, tree in told_trees():
            self.assertIsNone(clash(table), words)
        self.assertIsNone(clash([]))
        self.assertIsNone(clash(many(40, 0)))
        self.assertIsNone(clash(named("")))
        self.assertIsNone(clash(named("01" * 30)))
        self.assertIsNone(clash(FOUR))
        self.assertIsNone(clash([(name, (place, place, place)) for name, place in zip("abcd", [0, 1, 0, 1])]))

    def test_tables_at_random(self):
        chance = random.Random(11)
        for turn in range(400):
            copies, places = chance.randrange(0, 9), chance.randrange(0, 6)
            table = at_random(chance, copies, places)
            self.assertEqual(clash(table), clash_by_hand(table))
            self.assertEqual(clash(shuffled(chance, table)), clash(table))
        for turn in range(60):
            table = grown_at_random(chance, chance.randrange(1, 41), chance.randrange(0, 61))
            self.assertIsNone(clash(table))

    def test_one_copy_that_clashes_in_a_large_table(self):
        chance = random.Random(13)
        for turn in range(30):
            table = grown_at_random(chance, 39, 60)
            table.append(("zz", tuple(chance.randrange(2) for place in range(60))))
            self.assertEqual(clash(table), clash_by_hand(table))

    def test_the_table_stays_as_it_was_and_is_not_kept(self):
        for table in [list(FOUR), many(40, 60), list(CLASHES[2][0])]:
            before = frozen(table)
            told = clash(table)
            self.assertEqual(frozen(table), before)
            wanted = clash_by_hand(table)
            table.clear()
            self.assertEqual(told, wanted)
            self.assertIsNone(clash(table))

    def test_a_new_tuple_each_time(self):
        table = CLASHES[0][0]
        self.assertIsNot(clash(table), clash(table))
        self.assertIsNot(clash(table)[2], clash(table)[2])

    def test_what_is_no_table_is_refused(self):
        for number, thing in enumerate(no_tables()):
            with self.subTest(number=number):
                self.assertRaises(NoTable, clash, thing)

    def test_by_its_name(self):
        self.assertEqual(clash(table=CLASHES[0][0]), CLASHES[0][1])


if __name__ == "__main__":
    unittest.main()
