"""Points 11 and 12: where the first copy may stand, and what is known of what it read."""

import itertools
import random
import unittest

from copykin.errors import Clash, KinError, NoTable, NoTelling, Torn
from copykin.standing import first_read, stands
from copykin.trees import tree
from tests.things import (
    CLASHES, FOUR, Thing, at_random, figures, frozen, grown_at_random, many, named, no_tables, no_tellings, others,
    shuffled, spots, tabled, tellings_at_random, tellings_of, told_trees,
)

# Four copies in a row, three copies round a lost one, and a branch of two places with another copy behind it.
ROW = named("000", "100", "110", "111")
ROUND = named("100", "010", "001")
LONG = named("0000", "0110", "0111")


def all_tellings(count):
    """All tellings of so many places, in the order of the places."""
    for elders in itertools.product([None, 0, 1], repeat=count):
        yield [(place, elder) for place, elder in enumerate(elders) if elder is not None]


def bearing(nodes, tellings):
    return [node for node in nodes if all(node[place] == elder for place, elder in tellings)]


def first_torn(nodes, tellings):
    """The first two tellings that no node bears together, by trying all two."""
    torn = [(one, other) for one, other in itertools.combinations_with_replacement(range(len(tellings)), 2)
            if not bearing(nodes, [tellings[one], tellings[other]])]
    return tuple(tellings[number] for number in min(torn))


def known_by_words(table, tellings):
    """What is known of the first copy, as the document tells it place by place."""
    nodes, branches = tree(table)
    good = bearing(nodes, tellings)
    elders = dict(tellings)
    answer = []
    for place in range(len(table[0][1])):
        here = [branch for branch in branches if place in branch[2]]
        if place in elders:
            answer.append(elders[place])
        elif not here:
            answer.append(table[0][1][place])
        elif not any(end in good for branch in here for end in branch[:2]):
            answer.append(good[0][place])
        else:
            answer.append(None)
    return tuple(answer)


def known_by_spots(table, tellings):
    """What is known of the first copy: just where it is the same wherever it may stand."""
    found = [readings for readings, branch in spots(tree(table), tellings)]
    return tuple(parts[0] if len(set(parts)) == 1 else None for parts in zip(*found))


class Asked(unittest.TestCase):
    def torn(self, asked, table, tellings):
        """The two tellings of the refusal."""
        with self.assertRaises(Torn) as caught:
            asked(table, tellings)
        self.assertIsInstance(caught.exception, KinError)
        return (caught.exception.one, caught.exception.other)

    def stand(self, rows, table, tellings):
        self.assertEqual(stands(table, tellings), [figures(row) for row in rows.split()])


class Stands(Asked):
    def test_nothing_told(self):
        for words, table, wanted in told_trees():
            if table:
                self.assertEqual(stands(table, []), wanted[0], words)

    def test_one_telling(self):
        self.stand("000", ROW, [(0, 0)])
        self.stand("100 110 111", ROW, [(0, 1)])
        self.stand("000 100", ROW, [(1, 0)])
        self.stand("110 111", ROW, [(1, 1)])
        self.stand("000 100 110", ROW, [(2, 0)])
        self.stand("111", ROW, [(2, 1)])

    def test_several_tellings(self):
        self.stand("100", ROW, [(0, 1), (1, 0)])
        self.stand("100 110", ROW, [(0, 1), (2, 0)])
        self.stand("110", ROW, [(2, 0), (0, 1), (1, 1)])
        self.stand("110", ROW, [(1, 1), (2, 0), (0, 1)])

    def test_a_lost_copy(self):
        self.stand("000 001 010", ROUND, [(0, 0)])
        self.stand("000 001", ROUND, [(1, 0), (0, 0)])
        self.stand("000", ROUND, [(2, 0), (0, 0), (1, 0)])
        self.stand("100", ROUND, [(0, 1)])
        self.stand("100", ROUND, [(0, 1), (2, 0), (1, 0)])

    def test_plain_places(self):
        table = named("0101", "0011", "0001")
        self.stand("0001 0011 0101", table, [(0, 0)])
        self.stand("0001 0011 0101", table, [(3, 1), (0, 0)])
        self.stand("0101", table, [(3, 1), (1, 1), (0, 0)])
        self.stand("011", named("011"), [(0, 0), (1, 1)])

    def test_no_places(self):
        self.assertEqual(stands([("a", ())], []), [()])
        self.assertEqual(stands(many(40, 0), []), [()])

    def test_copies_that_read_alike(self):
        self.stand("01", named("01", "01", "01"), [(0, 0)])
        self.stand("0", named("1", "0", "1", "0"), [(0, 0)])

    def test_the_nodes_as_they_read(self):
        chance = random.Random(61)
        for turn in range(300):
            table = grown_at_random(chance, chance.randrange(1, 12), chance.randrange(0, 9))
            nodes = tree(table)[0]
            tellings = tellings_of(chance, chance.choice(nodes), chance.randrange(0, 5))
            self.assertEqual(stands(table, tellings), bearing(nodes, tellings))
            self.assertEqual(stands(shuffled(chance, table), shuffled(chance, tellings)), bearing(nodes, tellings))

    def test_large_tables(self):
        chance = random.Random(67)
        for turn in range(8):
            table = grown_at_random(chance, 40, 60)
            nodes = tree(table)[0]
            node = chance.choice(nodes)
            for told in [0, 1, 5, 60]:
                tellings = tellings_of(chance, node, told)
                self.assertEqual(stands(table, tellings), sorted(bearing(nodes, tellings)))
            self.assertEqual(stands(table, tellings_of(chance, node, 60)), [node])

    def test_what_is_told_is_the_askers_own(self):
        for words, table, wanted in told_trees():
            if table:
                tellings = [(0, wanted[0][0][0])] if wanted[0][0] else []
                before = (frozen(table), frozen(tellings))
                told = stands(table, tellings)
                self.assertIs(type(told), list)
                self.assertTrue(all(type(node) is tuple for node in told))
                expected = list(told)
                told.append("x")
                told.reverse()
                self.assertEqual(stands(table, tellings), expected, words)
                self.assertEqual((frozen(table), frozen(tellings)), before, words)
                for node in stands(table, tellings):
                    self.assertFalse(node and any(node is readings for name, readings in table))

    def test_what_is_handed_in_is_not_kept(self):
        table = list(ROW)
        tellings = [(0, 0)]
        told = stands(table, tellings)
        tellings.clear()
        table.pop()
        self.assertEqual(told, [(0, 0, 0)])
        self.stand("000 100 110", table, tellings)

    def test_by_their_names(self):
        self.assertEqual(stands(table=ROW, tellings=[(0, 0)]), [(0, 0, 0)])


class TornTellings(Asked):
    def both(self, table, tellings, one, other):
        """That both are refused so, with these tellings, and nothing that is handed in is changed."""
        before = (frozen(table), frozen(tellings))
        for asked in [stands, first_read]:
            self.assertEqual(self.torn(asked, table, tellings), (one, other))
        self.assertEqual((frozen(table), frozen(tellings)), before)

    def test_two_tellings(self):
        self.both(ROW, [(0, 0), (1, 1)], (0, 0), (1, 1))
        self.both(ROW, [(1, 1), (0, 0)], (1, 1), (0, 0))
        self.both(ROUND, [(0, 1), (1, 1)], (0, 1), (1, 1))
        self.both(named("00", "11"), [(0, 0), (1, 1)], (0, 0), (1, 1))

    def test_one_telling_alone(self):
        self.both(named("0"), [(0, 1)], (0, 1), (0, 1))
        self.both(named("01", "00"), [(0, 1)], (0, 1), (0, 1))
        self.both(named("01", "00"), [(0, 1), (1, 0)], (0, 1), (0, 1))
        self.both(named("101", "100", "100"), [(1, 1), (0, 0), (2, 1)], (1, 1), (1, 1))

    def test_the_first_two_by_one_then_by_other(self):
        # The telling that no node bears stands behind others: the first one goes with it.
        self.both(named("01", "00"), [(1, 0), (0, 1)], (1, 0), (0, 1))
        self.both(named("001", "011"), [(1, 0), (2, 0), (0, 1)], (1, 0), (2, 0))
        self.both(named("001", "011"), [(1, 0), (0, 1), (2, 0)], (1, 0), (0, 1))
        self.both(named("001", "011"), [(0, 0), (1, 0), (2, 0)], (0, 0), (2, 0))
        self.both(ROUND, [(0, 0), (1, 1), (2, 1)], (1, 1), (2, 1))
        self.both(ROUND, [(0, 0), (2, 1), (1, 1)], (2, 1), (1, 1))
        self.both(ROUND, [(0, 1), (2, 0), (1, 1)], (0, 1), (1, 1))
        self.both(ROUND, [(2, 1), (1, 1), (0, 1)], (2, 1), (1, 1))

    def test_one_counts_more_than_other(self):
        # No node bears the first and the last one, nor the two amid them.
        table = named("0000", "1100", "1111")
        self.both(table, [(2, 0), (0, 0), (1, 1), (3, 1)], (2, 0), (3, 1))
        self.both(table, [(0, 0), (2, 0), (3, 1), (1, 1)], (0, 0), (3, 1))
        table = named("0000", "1000", "0100", "0010", "0001")
        self.both(table, [(0, 0), (1, 1), (2, 1), (3, 0)], (1, 1), (2, 1))
        self.both(table, [(0, 1), (1, 0), (2, 1), (3, 1)], (0, 1), (2, 1))
        self.both(table, [(3, 1), (1, 1), (2, 1), (0, 1)], (3, 1), (1, 1))

    def test_of_all_small_tellings(self):
        for table in [ROW, ROUND, named("0101", "0011", "0001"), named("011", "100"), named("01")]:
            nodes = tree(table)[0]
            for tellings in all_tellings(len(table[0][1])):
                for order in itertools.permutations(tellings):
                    if not bearing(nodes, order):
                        one, other = first_torn(nodes, order)
                        self.both(table, list(order), one, other)

    def test_at_random(self):
        chance = random.Random(71)
        found = 0
        for turn in range(300):
            table = grown_at_random(chance, chance.randrange(1, 12), chance.randrange(1, 12))
            tellings = tellings_at_random(chance, len(table[0][1]), chance.randrange(1, 9))
            nodes = tree(table)[0]
            if not bearing(nodes, tellings):
                found += 1
                self.both(table, tellings, *first_torn(nodes, tellings))
        self.assertGreater(found, 100)

    def test_large_tables(self):
        chance = random.Random(73)
        for turn in range(10):
            table = grown_at_random(chance, 40, 60)
            tellings = tellings_at_random(chance, 60, 60)
            self.assertEqual(self.torn(stands, table, tellings), first_torn(tree(table)[0], tellings))

    def test_the_fields_are_new_tuples(self):
        for tellings in [[(0, 1), (1, 1)], [(1, 1), (0, 1)]]:
            for asked in [stands, first_read]:
                for field in self.torn(asked, ROUND, tellings):
                    self.assertIs(type(field), tuple)
                    self.assertFalse(any(field is telling for telling in tellings))

    def test_a_refusal_changes_nothing_of_the_next_answer(self):
        table = list(ROW)
        self.assertRaises(Torn, stands, table, [(0, 0), (1, 1)])
        self.assertRaises(Torn, first_read, table, [(0, 0), (1, 1)])
        self.stand("000", table, [(0, 0)])
        self.assertEqual(first_read(table, [(0, 0)]), (0, 0, 0))


class FirstRead(Asked):
    def read(self, signs, table, tellings):
        wanted = tuple({"0": 0, "1": 1, "?": None}[sign] for sign in signs)
        self.assertEqual(first_read(table, tellings), wanted)

    def test_no_places(self):
        self.assertEqual(first_read([("a", ())], []), ())
        self.assertEqual(first_read(many(40, 0), []), ())

    def test_nothing_told(self):
        for words, table, wanted in told_trees():
            if table:
                torn = {place for branch in wanted[1] for place in branch[2]}
                self.assertEqual(first_read(table, []), tuple(
                    None if place in torn else part for place, part in enumerate(table[0][1])), words)

    def test_one_copy(self):
        self.read("011", named("011"), [])
        self.read("011", named("011"), [(1, 1)])
        self.read("011", named("011"), [(2, 1), (0, 0), (1, 1)])

    def test_plain_places(self):
        self.read("0??1", named("0101", "0011", "0001"), [])
        self.read("0??1", named("0101", "0011", "0001"), [(3, 1)])
        self.read("010", named("010", "010"), [])

    def test_told_places_as_told(self):
        self.read("0", named("0", "1"), [(0, 0)])
        self.read("1", named("0", "1"), [(0, 1)])
        self.read("?", named("0", "1"), [])

    def test_torn_places_on_no_branch_with_a_node_told(self):
        self.read("000", ROW, [(0, 0)])
        self.read("111", ROW, [(2, 1)])
        self.read("?00", ROW, [(1, 0)])
        self.read("11?", ROW, [(1, 1)])
        self.read("1?0", ROW, [(0, 1), (2, 0)])
        self.read("100", ROW, [(1, 0), (0, 1)])

    def test_a_branch_with_one_node_told_and_one_not(self):
        # It may stand amid it, behind a change that is not told, though just one of its ends is told.
        self.read("0?", named("00", "11"), [(0, 0)])
        self.read("?1", named("00", "11"), [(1, 1)])
        self.read("00?0", LONG, [(1, 0)])
        self.read("0?00", LONG, [(2, 0)])
        self.read("0??0", LONG, [(3, 0)])
        self.read("0111", LONG, [(3, 1)])
        self.read("0?1?", LONG, [(2, 1)])
        self.read("0?10", LONG, [(2, 1), (3, 0)])

    def test_a_branch_with_all_its_places_told(self):
        self.read("00", named("00", "11"), [(0, 0), (1, 0)])
        self.read("0000", LONG, [(1, 0), (2, 0)])
        self.read("011?", LONG, [(2, 1), (1, 1)])
        self.read("0110", LONG, [(2, 1), (3, 0), (1, 1)])

    def test_a_lost_copy(self):
        self.read("0??", ROUND, [(0, 0)])
        self.read("00?", ROUND, [(1, 0), (0, 0)])
        self.read("000", ROUND, [(2, 0), (1, 0), (0, 0)])
        self.read("100", ROUND, [(0, 1)])

    def test_one_end_told_of_a_branch_at_a_lost_copy(self):
        table = named("110000", "001100", "000011")
        self.read("0?????", table, [(0, 0)])
        self.read("1?0000", table, [(0, 1)])
        self.read("0?0?0?", table, [(0, 0), (2, 0), (4, 0)])
        self.read("000?0?", table, [(0, 0), (1, 0), (2, 0), (4, 0)])

    def test_of_all_small_tellings(self):
        tables = [ROW, ROUND, LONG, named("0101", "0011", "0001"), named("00", "11"), named("0000", "1111"),
                  named("0000", "1100", "1111"), named("11000", "00110", "00001"), named("0011", "1100", "0000")]
        for table in tables:
            for tellings in all_tellings(len(table[0][1])):
                if bearing(tree(table)[0], tellings):
                    self.assertEqual(first_read(table, tellings), known_by_words(table, tellings))
                    self.assertEqual(first_read(table, tellings), known_by_spots(table, tellings))

    def test_at_random(self):
        chance = random.Random(79)
        for turn in range(400):
            table = grown_at_random(chance, chance.randrange(1, 10), chance.randrange(1, 12))
            tellings = tellings_of(chance, chance.choice(tree(table)[0]), chance.randrange(0, 7))
            known = first_read(table, tellings)
            self.assertEqual(known, known_by_words(table, tellings))
            self.assertEqual(known, known_by_spots(table, tellings))
            self.assertEqual(first_read(shuffled(chance, table), shuffled(chance, tellings)), known)

    def test_large_tables(self):
        chance = random.Random(83)
        for turn in range(10):
            table = grown_at_random(chance, 40, 60)
            node = chance.choice(tree(table)[0])
            for told in [0, 3, 20, 60]:
                tellings = tellings_of(chance, node, told)
                self.assertEqual(first_read(table, tellings), known_by_words(table, tellings))
            self.assertEqual(first_read(table, tellings_of(chance, node, 60)), node)

    def test_a_new_tuple(self):
        for table, tellings in [(named("011"), []), (ROW, [(0, 0)]), (FOUR, [(1, 0)])]:
            before = (frozen(table), frozen(tellings))
            told = first_read(table, tellings)
            self.assertIs(type(told), tuple)
            self.assertFalse(any(told is readings for name, readings in table))
            self.assertTrue(all(part is None or type(part) is int for part in told))
            self.assertEqual((frozen(table), frozen(tellings)), before)

    def test_by_their_names(self):
        self.assertEqual(first_read(table=ROW, tellings=[(0, 0)]), (0, 0, 0))


class Refusals(Asked):
    def test_no_table_whatever_stands_behind(self):
        for number, thing in enumerate(no_tables() + [[]]):
            with self.subTest(number=number):
                for tellings in [[], [(0, 0)], [(0, 2)], None, (), Thing(), "x"]:
                    self.assertRaises(NoTable, stands, thing, tellings)
                    self.assertRaises(NoTable, first_read, thing, tellings)

    def test_the_table_without_copies(self):
        for tellings in others() + [[(0, 0)], [(0, 0), (0, 0)]]:
            self.assertRaises(NoTable, stands, [], tellings)
            self.assertRaises(NoTable, first_read, [], tellings)

    def test_what_are_no_tellings(self):
        # Also of tables with a clash, and where other tellings among them are torn.
        for table in [named("0"), ROW, ROUND, FOUR, CLASHES[0][0], CLASHES[3][0], tabled([(0,) * 60, (1,) * 60])]:
            for number, tellings in enumerate(no_tellings(len(table[0][1]))):
                with self.subTest(number=number):
                    self.assertRaises(NoTelling, stands, table, tellings)
                    self.assertRaises(NoTelling, first_read, table, tellings)

    def test_no_tellings_of_a_table_without_places(self):
        for table in [named(""), many(40, 0)]:
            for tellings in no_tellings(1) + [[(0, 0)], [(0, 1)]]:
                self.assertRaises(NoTelling, stands, table, tellings)
                self.assertRaises(NoTelling, first_read, table, tellings)

    def test_torn_ones_and_one_that_is_none(self):
        for asked in [stands, first_read]:
            self.assertRaises(NoTelling, asked, ROW, [(0, 0), (1, 1), (3, 0)])
            self.assertRaises(NoTelling, asked, ROW, [(0, 0), (1, 1), (0, 0)])
            self.assertRaises(NoTelling, asked, ROW, [(0, 0), (1, 1), (2, 2)])

    def test_a_clash_with_its_fields(self):
        for table, wanted in CLASHES:
            count = len(table[0][1])
            told = [[], [(0, 0)], [(0, 1), (1, 0)]] + [[(place, part) for place in range(count)] for part in [0, 1]]
            for tellings in told:
                for asked in [stands, first_read]:
                    before = (frozen(table), frozen(tellings))
                    with self.assertRaises(Clash) as caught:
                        asked(table, tellings)
                    error = caught.exception
                    self.assertEqual((error.one, error.other, error.names), wanted)
                    self.assertEqual((frozen(table), frozen(tellings)), before)

    def test_a_clash_goes_ahead_of_torn_tellings(self):
        # A plain place that is told to read otherwise is borne by no node, but the table has no nodes.
        table = [(name, (0,) + readings) for name, readings in CLASHES[0][0]]
        for asked in [stands, first_read]:
            self.assertRaises(Clash, asked, table, [(0, 1)])
            self.assertRaises(Clash, asked, table, [(1, 0), (0, 1)])

    def test_just_one_is_told(self):
        chance = random.Random(89)
        found = {Clash: 0, Torn: 0, list: 0}
        for turn in range(500):
            table = at_random(chance, chance.randrange(1, 6), chance.randrange(1, 5))
            tellings = tellings_at_random(chance, len(table[0][1]), chance.randrange(0, 4))
            try:
                told = type(stands(table, tellings))
                first_read(table, tellings)
            except KinError as error:
                told = type(error)
                self.assertRaises(told, first_read, table, tellings)
            found[told] += 1
        self.assertGreater(min(found.values()), 30)


if __name__ == "__main__":
    unittest.main()
