"""Point 8: the tree of a table without a clash; and of point 3, that of every table just one of the two is told."""

import itertools
import random
import unittest

from copykin.clashes import clash
from copykin.errors import Clash, KinError, NoName, NoTable
from copykin.reader import read
from copykin.trees import node_of, tree
from copykin.walking import walked
from copykin.writer import written
from tests.things import (
    CLASHES, FOUR, NO_NAMES, Thing, at_random, frozen, grown_at_random, letters, many, named, no_tables, others,
    shuffled, tabled, told_trees,
)


def middle(one, other, third):
    return tuple(sorted(readings)[1] for readings in zip(one, other, third))


def tree_by_middles(table):
    """The tree in another way: its nodes are the middles of any three copies, its branches have no node between."""
    rows = sorted({readings for name, readings in table})
    nodes = sorted({middle(*three) for three in itertools.combinations_with_replacement(rows, 3)})
    branches = []
    for one, other in itertools.combinations(nodes, 2):
        amid = [node for node in nodes if all(part in ends for part, ends in zip(node, zip(one, other)))]
        if len(amid) == 2:
            branches.append((one, other, tuple(place for place in range(len(one)) if one[place] != other[place])))
    return (nodes, sorted(branches))


def moved(table, order, turns):
    """The table with its places in another order, and turned about at some of them."""
    return [(name, moved_node(readings, order, turns)) for name, readings in table]


def moved_node(readings, order, turns):
    return tuple(readings[place] ^ turns[place] for place in order)


def moved_tree(told, order, turns):
    nodes, branches = told
    answer = []
    for one, other, places in branches:
        ends = sorted([moved_node(one, order, turns), moved_node(other, order, turns)])
        answer.append((ends[0], ends[1], tuple(sorted(order.index(place) for place in places))))
    return (sorted(moved_node(node, order, turns) for node in nodes), sorted(answer))


class Held(unittest.TestCase):
    """What the document says of a tree, word by word."""

    def hold(self, table, told):
        self.hold_kinds(told)
        nodes, branches = told
        for name, readings in table:
            self.assertIn(readings, nodes)
        for one, other, places in branches:
            self.assertIn(one, nodes)
            self.assertIn(other, nodes)
            self.assertEqual(places, tuple(place for place in range(len(one)) if one[place] != other[place]))
            self.assertGreaterEqual(len(places), 1)
        count = len(table[0][1]) if table else 0
        for place in range(count):
            torn = len({readings[place] for name, readings in table}) == 2
            self.assertEqual(sum(places.count(place) for one, other, places in branches), int(torn))
        rows = [readings for name, readings in table]
        for node in nodes:
            if node not in rows:
                self.assertGreaterEqual(sum(node in branch[:2] for branch in branches), 3)
        self.hold_ways(nodes, branches)

    def hold_kinds(self, told):
        self.assertIs(type(told), tuple)
        self.assertEqual([type(part) for part in told], [list, list])
        nodes, branches = told
        for node in nodes:
            self.assertIs(type(node), tuple)
            self.assertTrue(all(type(reading) is int for reading in node))
        self.assertEqual(nodes, sorted(set(nodes)))
        self.assertEqual(branches, sorted(set(branches)))
        for branch in branches:
            self.assertEqual([type(part) for part in branch], [tuple] * 3)
            self.assertTrue(all(type(number) is int for part in branch for number in part))
            self.assertLess(branch[0], branch[1])
            self.assertEqual(list(branch[2]), sorted(set(branch[2])))

    def hold_ways(self, nodes, branches):
        parts = {node: {node} for node in nodes}
        for one, other, places in branches:
            # Ends that hang together already would have a second way.
            self.assertIsNot(parts[one], parts[other])
            both = parts[one] | parts[other]
            for node in both:
                parts[node] = both
        self.assertLessEqual(len({id(part) for part in parts.values()}), 1)


class Trees(Held):
    def test_the_tree_of_each(self):
        for words, table, wanted in told_trees():
            with self.subTest(words):
                self.assertEqual(tree(table), wanted)
                self.hold(table, tree(table))

    def test_no_copies(self):
        self.assertEqual(tree([]), ([], []))

    def test_whatever_the_order_of_the_copies(self):
        for words, table, wanted in told_trees():
            for order in itertools.permutations(table):
                self.assertEqual(tree(list(order)), wanted, words)

    def test_whatever_their_names(self):
        for words, table, wanted in told_trees():
            for names in itertools.permutations([name for name, readings in table]):
                self.assertEqual(tree([(name, copy[1]) for name, copy in zip(names, table)]), wanted, words)

    def test_whatever_the_order_of_the_places_and_turned_about(self):
        for words, table, wanted in told_trees():
            count = len(table[0][1]) if table else 0
            for order in itertools.islice(itertools.permutations(range(count)), 120):
                for turns in itertools.islice(itertools.product([0, 1], repeat=count), 16):
                    self.assertEqual(tree(moved(table, order, turns)), moved_tree(wanted, order, turns), words)

    def test_plain_places_stand_on_no_branch(self):
        for words, table, wanted in told_trees():
            for reading in [0, 1]:
                more = [(name, (reading,) + readings + (reading,)) for name, readings in table]
                nodes, branches = tree(more)
                self.assertEqual([node[1:-1] for node in nodes], wanted[0])
                self.assertEqual([tuple(place - 1 for place in branch[2]) for branch in branches],
                                 [branch[2] for branch in wanted[1]])

    def test_many_branches_at_one_lost_copy(self):
        for count in [3, 4, 39, 40]:
            rows = [tuple(int(place == number) for place in range(count)) for number in range(count)]
            nodes, branches = tree(tabled(rows))
            self.assertEqual(nodes, sorted(rows + [(0,) * count]))
            self.assertEqual(branches, [((0,) * count, rows[place], (place,)) for place in reversed(range(count))])

    def test_a_long_way(self):
        rows = [(1,) * number + (0,) * (39 - number) for number in range(40)]
        nodes, branches = tree(tabled(rows))
        self.assertEqual(nodes, sorted(rows))
        self.assertEqual(branches, sorted((rows[place], rows[place + 1], (place,)) for place in range(39)))

    def test_all_places_on_one_branch(self):
        rows = [(0, 1) * 30, (1, 0) * 30]
        self.assertEqual(tree(tabled(rows)), (rows, [(rows[0], rows[1], tuple(range(60)))]))

    def test_as_many_lost_copies_as_can_be(self):
        # A comb: 31 copies, each with a place of its own, hang one by one on a way of 29 lost ones.
        rows = []
        for number in range(31):
            own = [0] * 60
            own[number] = 1
            for place in range(31, 31 + min(number, 29)):
                own[place] = 1
            rows.append(tuple(own))
        told = tree(tabled(rows))
        self.hold(tabled(rows), told)
        self.assertEqual(told, tree_by_middles(tabled(rows)))
        self.assertEqual([len(part) for part in told], [60, 59])

    def test_trees_at_random(self):
        chance = random.Random(17)
        for turn in range(300):
            table = grown_at_random(chance, chance.randrange(1, 13), chance.randrange(0, 13))
            told = tree(table)
            self.hold(table, told)
            self.assertEqual(told, tree_by_middles(table))
            self.assertEqual(tree(shuffled(chance, table)), told)

    def test_large_trees_at_random(self):
        chance = random.Random(19)
        for turn in range(20):
            table = grown_at_random(chance, 40, 60)
            told = tree(table)
            self.hold(table, told)
            self.assertIsNone(walked(table, told))
            order = shuffled(chance, list(range(60)))
            turns = [chance.randrange(2) for place in range(60)]
            self.assertEqual(tree(moved(table, order, turns)), moved_tree(told, order, turns))

    def test_what_is_told_is_the_askers_own(self):
        for words, table, wanted in told_trees():
            before = frozen(table)
            nodes, branches = tree(table)
            nodes.append("x")
            branches.append("x")
            nodes.reverse()
            branches.clear()
            self.assertEqual(tree(table), wanted, words)
            self.assertEqual(frozen(table), before, words)
            for node in tree(table)[0]:
                for name, readings in table:
                    if readings:
                        self.assertIsNot(node, readings)

    def test_what_is_handed_in_is_not_kept(self):
        for words, table, wanted in told_trees():
            told = tree(table)
            table.clear()
            self.assertEqual(told, wanted, words)
            self.assertEqual(tree(table), ([], []))

    def test_written_and_read_to_the_same(self):
        for words, table, wanted in told_trees():
            self.assertEqual(tree(read(written(table))), wanted, words)

    def test_by_its_name(self):
        self.assertEqual(tree(table=named("0")), ([(0,)], []))


class TreeRefusals(unittest.TestCase):
    def test_a_clash_with_its_fields(self):
        for table, wanted in CLASHES:
            for turn in [table, table[::-1]]:
                before = frozen(turn)
                with self.assertRaises(Clash) as caught:
                    tree(turn)
                self.assertIsInstance(caught.exception, KinError)
                self.assertEqual((caught.exception.one, caught.exception.other, caught.exception.names), wanted)
                self.assertIs(type(caught.exception.names), tuple)
                self.assertEqual(frozen(turn), before)

    def test_a_refusal_changes_nothing_of_the_next_answer(self):
        table = named("00", "01", "10")
        wanted = tree(table)
        self.assertRaises(Clash, tree, table + [("d", (1, 1))])
        self.assertEqual(tree(table), wanted)

    def test_what_is_no_table(self):
        for number, thing in enumerate(no_tables()):
            with self.subTest(number=number):
                self.assertRaises(NoTable, tree, thing)


class JustOne(Held):
    def tell(self, table):
        """The tree or the clash, whichever of the two is told."""
        found = clash(table)
        try:
            told = tree(table)
        except Clash as error:
            self.assertEqual((error.one, error.other, error.names), found)
            return None
        self.assertIsNone(found)
        return told

    def test_of_every_table_of_three_places(self):
        rows = list(itertools.product([0, 1], repeat=3))
        for chosen in itertools.product([0, 1], repeat=8):
            table = tabled([row for row, there in zip(rows, chosen) if there])
            told = self.tell(table)
            if told is not None:
                self.hold(table, told)
            self.only(table, told, rows)

    def only(self, table, told, rows):
        """That nothing but the tree that is told is walked as one."""
        # A tree has one node more than branches, and no more branches than places.
        here = [readings for name, readings in table]
        good = [([], [])] if walked(table, ([], [])) is None else []
        for size in range(max(len(here), 1), 5):
            for nodes in itertools.combinations(rows, size):
                if not set(here) <= set(nodes):
                    continue
                pairs = [(one, other, tuple(place for place in range(3) if one[place] != other[place]))
                         for one, other in itertools.combinations(nodes, 2)]
                for branches in itertools.combinations(pairs, size - 1):
                    if walked(table, (list(nodes), list(branches))) is None:
                        good.append((list(nodes), list(branches)))
        self.assertEqual(good, [] if told is None else [told])

    def test_of_tables_at_random(self):
        chance = random.Random(23)
        found = {True: 0, False: 0}
        for turn in range(500):
            table = at_random(chance, chance.randrange(0, 7), chance.randrange(0, 5))
            told = self.tell(table)
            found[told is None] += 1
            if told is not None:
                self.hold(table, told)
        self.assertGreater(min(found.values()), 50)


class NodeOf(unittest.TestCase):
    def test_the_readings_of_each_copy(self):
        for words, table, wanted in told_trees():
            for name, readings in table:
                self.assertEqual(node_of(table, name), readings, words)
                self.assertIn(node_of(table, name), wanted[0])
        for name, readings in FOUR:
            self.assertEqual(node_of(FOUR, name), readings)
            self.assertIs(type(node_of(FOUR, name)), tuple)

    def test_of_a_table_with_a_clash(self):
        for table, wanted in CLASHES:
            for name, readings in table:
                self.assertEqual(node_of(table, name), readings)

    def test_the_largest_table(self):
        table = many(40, 60)
        for name, readings in table:
            self.assertEqual(node_of(table, name), readings)

    def test_a_new_tuple(self):
        table = list(FOUR)
        before = frozen(table)
        for name, readings in FOUR:
            self.assertIsNot(node_of(table, name), readings)
        self.assertEqual(frozen(table), before)

    def test_no_table_goes_first(self):
        for number, thing in enumerate(no_tables()):
            with self.subTest(number=number):
                for name in ["a", "zz", "", None, True, 0, ["a"], Thing()]:
                    self.assertRaises(NoTable, node_of, thing, name)

    def test_no_name_and_the_name_of_no_copy(self):
        for table in [[], FOUR, many(40, 60), named(""), CLASHES[0][0]]:
            for name in NO_NAMES + others(str) + ["e", "abcdefg", "z", "bbb", letters(300)]:
                self.assertRaises(NoName, node_of, table, name)

    def test_by_their_names(self):
        self.assertEqual(node_of(table=FOUR, name="bb"), (1, 1, 0, 0))


if __name__ == "__main__":
    unittest.main()
