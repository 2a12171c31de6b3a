"""Point 9: the walk of a tree."""

import itertools
import random
import unittest

from copykin.errors import NoTable
from copykin.trees import tree
from copykin.walking import walked
from tests.things import (
    CLASHES, FOUR, NO_READINGS, Thing, at_random, endless, figures, frozen, grown_at_random, many, named, no_tables,
    others, told_trees,
)

WORDS = ["kinds", "order", "nodes", "branches", "places", "ways", "lost"]


def is_node(thing, count):
    return type(thing) is tuple and len(thing) == count and all(type(part) is int and 0 <= part <= 1 for part in thing)


def kinds_hold(count, thing):
    if type(thing) is not tuple or [type(part) for part in thing] != [list, list]:
        return False
    for node in thing[0]:
        if not is_node(node, count):
            return False
    for branch in thing[1]:
        if type(branch) is not tuple or len(branch) != 3 or type(branch[2]) is not tuple:
            return False
        if not is_node(branch[0], count) or not is_node(branch[1], count):
            return False
        if any(type(place) is not int for place in branch[2]):
            return False
    return True


def ways_hold(nodes, branches):
    """Whether all hang together, and do no more without any one of the branches."""
    def together(some):
        parts = [{node} for node in nodes]
        for one, other, places in some:
            parts = [part for part in parts if not part & {one, other}] + [
                set().union({one, other}, *[part for part in parts if part & {one, other}])]
        return len(parts) <= 1
    if not together(branches):
        return False
    return not any(together(branches[:number] + branches[number + 1:]) for number in range(len(branches)))


def broken(table, thing):
    """All words that are so, as the document tells them one by one."""
    count = len(table[0][1]) if table else 0
    if not kinds_hold(count, thing):
        return ["kinds"]
    nodes, branches = thing
    rows = [readings for name, readings in table]
    unlike = [tuple(place for place in range(count) if one[place] != other[place]) for one, other, places in branches]
    held = {
        "order": nodes == sorted(set(nodes)) and branches == sorted(set(branches)) and all(
            one < other and list(places) == sorted(set(places)) for one, other, places in branches),
        "nodes": {one for one, other, places in branches} | {other for one, other, places in branches} | set(rows)
        <= set(nodes),
        "branches": all(places and places == apart for (one, other, places), apart in zip(branches, unlike)),
        "places": all(
            sum(place in places for one, other, places in branches) == len({readings[place] for readings in rows}) - 1
            for place in range(count) if rows),
        "ways": ways_hold(nodes, branches),
        "lost": all(node in rows or sum(node in branch[:2] for branch in branches) >= 3 for node in nodes),
    }
    return [word for word in WORDS[1:] if not held[word]]


def handed(nodes, *branches):
    """A thing of nodes, figures with blanks between, and of branches (figures, figures, places)."""
    return ([figures(node) for node in nodes.split()],
            [(figures(one), figures(other), places) for one, other, places in branches])


def spoiled(told):
    """Things that are much like this tree."""
    nodes, branches = told
    yield (nodes[::-1], branches)
    yield (nodes, branches[::-1])
    yield (nodes + nodes, branches)
    yield (nodes, branches + branches)
    yield ([], branches)
    yield (nodes, [])
    for number, node in enumerate(nodes):
        yield (nodes[:number] + nodes[number + 1:], branches)
        yield (nodes[:number] + nodes[number + 1:], [branch for branch in branches if node not in branch[:2]])
        yield (nodes[:number] + [node] + nodes[number:], branches)
        for place in range(len(node)):
            turned = node[:place] + (1 - node[place],) + node[place + 1:]
            yield (sorted(nodes[:number] + [turned] + nodes[number + 1:]), branches)
            yield (sorted(nodes + [turned]), branches)
            yield (sorted(set(nodes + [turned])), branches)
            hung = branches + [(min(node, turned), max(node, turned), (place,))]
            yield (sorted(set(nodes + [turned])), sorted(hung))
            yield (sorted(set(nodes + [turned])), sorted(set(hung)))
    for number, (one, other, places) in enumerate(branches):
        rest = branches[:number] + branches[number + 1:]
        yield (nodes, rest)
        yield (nodes, branches[:number] + [branches[number]] + branches[number:])
        for wrong in [(), places + places, places[::-1], places[1:], places[:-1], places + (99,), (-1,) + places,
                      places + (places[-1] + 1,), (places[0] - 1,) + places, (-10 ** 30,), (10 ** 30,)]:
            yield (nodes, rest[:number] + [(one, other, wrong)] + rest[number:])
        for wrong in [(other, one, places), (one, one, places), (one, one, ()), (other, other, places)]:
            yield (nodes, rest[:number] + [wrong] + rest[number:])
            yield (nodes, sorted(rest + [wrong]))
        for end in nodes:
            yield (nodes, sorted(rest + [(min(one, end), max(one, end), places)]))
            apart = tuple(place for place in range(len(one)) if one[place] != end[place])
            yield (nodes, sorted(rest + [(min(one, end), max(one, end), apart)]))
        if len(places) > 1:
            for cut in range(1, len(places)):
                amid = tuple(other[place] if place in places[:cut] else one[place] for place in range(len(one)))
                halves = [(min(one, amid), max(one, amid), places[:cut]),
                          (min(amid, other), max(amid, other), places[cut:])]
                yield (sorted(nodes + [amid]), sorted(rest + halves))


class Walked(unittest.TestCase):
    def test_none_of_the_tree_of_each_table(self):
        for words, table, wanted in told_trees():
            self.assertIsNone(walked(table, wanted), words)
            self.assertIsNone(walked(table, tree(table)), words)
            self.assertIsNone(walked(table[::-1], tree(table)), words)

    def test_none_of_trees_at_random(self):
        chance = random.Random(29)
        for turn in range(100):
            table = grown_at_random(chance, chance.randrange(1, 41), chance.randrange(0, 61))
            self.assertIsNone(walked(table, tree(table)))

    def test_not_the_tree_of_another_table(self):
        for words, table, wanted in told_trees():
            for others_words, other, other_tree in told_trees():
                told = walked(table, other_tree)
                if other_tree == wanted:
                    self.assertIsNone(told)
                else:
                    self.assertEqual(told, broken(table, other_tree)[0], (words, others_words))

    def test_the_first_word_of_whatever_is_broken(self):
        found = {}
        for words, table, wanted in told_trees():
            for thing in spoiled(wanted):
                so = broken(table, thing) + [None]
                self.assertEqual(walked(table, thing), so[0], (words, thing))
                found[so[0]] = True
        self.assertEqual(set(found) - {None}, set(WORDS) - {"kinds"})

    def test_things_spoiled_twice(self):
        chance = random.Random(31)
        for words, table, wanted in told_trees():
            for thing in spoiled(wanted):
                again = [more for more in spoiled(thing)] if all(branch[2] for branch in thing[1]) else []
                for more in chance.sample(again, min(len(again), 6)):
                    so = broken(table, more) + [None]
                    self.assertEqual(walked(table, more), so[0], (words, more))

    def test_anything_of_the_kinds_of_two_places(self):
        rows = list(itertools.product([0, 1], repeat=2))
        pairs = [(one, other, tuple(place for place in range(2) if one[place] != other[place]))
                 for one, other in itertools.combinations(rows, 2)]
        things = [(list(nodes), list(branches))
                  for size in range(5) for nodes in itertools.combinations(rows, size)
                  for many_branches in range(5) for branches in itertools.combinations(pairs, many_branches)]
        for size in range(1, 5):
            for chosen in itertools.combinations(rows, size):
                table = [(name, readings) for name, readings in zip("abcd", chosen)]
                good = []
                for thing in things:
                    so = broken(table, thing) + [None]
                    self.assertEqual(walked(table, thing), so[0], (table, thing))
                    if so[0] is None:
                        good.append(thing)
                self.assertEqual(good, [tree(table)] if size < 4 else [])

    def test_what_is_handed_in_stays_as_it_was(self):
        for words, table, wanted in told_trees():
            for thing in itertools.chain([wanted], spoiled(wanted)):
                before = (frozen(table), frozen(thing[0]), frozen(thing[1]))
                walked(table, thing)
                self.assertEqual((frozen(table), frozen(thing[0]), frozen(thing[1])), before, words)

    def test_what_is_handed_in_is_not_kept(self):
        table = named("00", "11", "01")
        thing = tree(table)
        self.assertIsNone(walked(table, thing))
        thing[0].reverse()
        self.assertEqual(walked(table, thing), "order")
        thing[0].clear()
        self.assertEqual(walked(table, thing), "nodes")
        table.clear()
        thing[1].clear()
        self.assertIsNone(walked(table, thing))

    def test_by_their_names(self):
        self.assertIsNone(walked(table=[], thing=([], [])))


class EachWordAlone(unittest.TestCase):
    def alone(self, word, table, thing):
        self.assertEqual(broken(table, thing), [word])
        self.assertEqual(walked(table, thing), word)
        self.assertIs(type(walked(table, thing)), str)

    def test_kinds(self):
        self.alone("kinds", named("0", "1"), None)
        self.alone("kinds", named("0", "1"), list(tree(named("0", "1"))))

    def test_order(self):
        table = named("00", "11", "01")
        nodes, branches = tree(table)
        self.alone("order", table, (nodes[::-1], branches))
        self.alone("order", table, (nodes, branches[::-1]))
        self.alone("order", table, (nodes[:1] + nodes, branches))
        self.alone("order", table, (nodes, [branches[0], branches[1][1::-1] + branches[1][2:]]))
        self.alone("order", table, (nodes + nodes[-1:], branches))

    def test_places_that_do_not_rise(self):
        table = named("000", "110")
        nodes, branches = tree(table)
        for places in [(1, 0), (0, 0), (0, 1, 1), (0, 0, 1), (0, 1, 0), (1, 1)]:
            self.assertEqual(walked(table, (nodes, [(nodes[0], nodes[1], places)])), "order")

    def test_a_branch_from_a_node_to_itself(self):
        table = named("00")
        for places in [(), (0,), (0, 1)]:
            self.assertEqual(walked(table, ([(0, 0)], [((0, 0), (0, 0), places)])), "order")

    def test_branches_with_the_same_ends_are_sorted_by_their_places(self):
        table = named("00", "11")
        nodes = tree(table)[0]
        self.assertEqual(walked(table, (nodes, [(nodes[0], nodes[1], (1,)), (nodes[0], nodes[1], (0, 1))])), "order")
        # These two are not one and the same, and sorted.
        self.assertEqual(walked(table, (nodes, [(nodes[0], nodes[1], (0,)), (nodes[0], nodes[1], (0, 1))])), "branches")

    def test_nodes(self):
        # The copy amid the two is no node.
        self.alone("nodes", named("00", "11", "01"), handed("00 11", ("00", "11", (0, 1))))
        # The lost copy is none.
        table = named("100", "010", "001")
        nodes, branches = tree(table)
        self.alone("nodes", table, (nodes[1:], branches))
        self.assertEqual(walked(table, ([], [])), "nodes")
        self.assertEqual(walked(named("0"), ([(1,)], [])), "nodes")
        self.assertEqual(walked(named(""), ([], [])), "nodes")

    def test_branches(self):
        # Each branch has the other's place.
        table = named("00", "11", "01")
        self.alone("branches", table, handed("00 01 11", ("00", "01", (0,)), ("01", "11", (1,))))

    def test_branches_with_places_that_the_table_has_not(self):
        table = named("0", "1")
        for places in [(), (1,), (0, 1), (-1,), (-1, 0), (0, 60), (99,), (10 ** 30,), (-10 ** 30, 0)]:
            self.assertEqual(walked(table, ([(0,), (1,)], [((0,), (1,), places)])), "branches")

    def test_places(self):
        # Place 0 changes there and back again.
        self.alone("places", named("00", "01", "10"), handed("00 01 10", ("00", "10", (0,)), ("01", "10", (0, 1))))
        self.alone("places", CLASHES[0][0],
                   handed("00 01 10 11", ("00", "01", (1,)), ("01", "11", (0,)), ("10", "11", (1,))))

    def test_a_torn_place_on_no_branch_and_a_plain_one_on_any(self):
        self.assertEqual(walked(named("0", "1"), handed("0 1")), "places")
        self.assertEqual(walked(named("0"), handed("0 1", ("0", "1", (0,)))), "places")
        self.assertEqual(walked(named("00", "01"), handed("00 01 10", ("00", "01", (1,)), ("00", "10", (0,)))), "places")

    def test_ways(self):
        # The copy amid the branch is not come to.
        self.alone("ways", named("00", "11", "01"), handed("00 01 11", ("00", "11", (0, 1))))
        self.alone("ways", CLASHES[0][0], handed("00 01 10 11", ("00", "01", (1,)), ("00", "10", (0,))))

    def test_two_nodes_without_a_branch(self):
        # Both places are plain, so that no branch is asked for.
        self.assertEqual(walked(named("00"), handed("00 01")), "ways")
        self.assertEqual(walked(named("00", "00"), handed("00 11")), "ways")

    def test_two_ways_change_a_place_twice(self):
        table = named("00", "01", "10", "11")
        ring = handed("00 01 10 11", ("00", "01", (1,)), ("00", "10", (0,)), ("01", "11", (0,)), ("10", "11", (1,)))
        self.assertEqual(broken(table, ring), ["places", "ways"])
        self.assertEqual(walked(table, ring), "places")

    def test_lost(self):
        # A lost copy amid a branch has two branches.
        self.alone("lost", named("00", "11"), handed("00 01 11", ("00", "01", (1,)), ("01", "11", (0,))))
        self.alone("lost", [], ([()], []))

    def test_three_branches_are_enough_and_two_are_not(self):
        table = named("100", "010", "001")
        self.assertIsNone(walked(table, tree(table)))
        fewer = named("100", "010")
        self.assertIsNone(walked(fewer, handed("010 100", ("010", "100", (0, 1)))))
        self.alone("lost", fewer, handed("000 010 100", ("000", "010", (1,)), ("000", "100", (0,))))

    def test_the_first_word_where_several_are_broken(self):
        table = named("00", "11", "01")
        nodes, branches = tree(table)
        self.assertEqual(walked(table, (nodes[::-1], [None])), "kinds")
        self.assertEqual(walked(table, ([(1, 1), (0, 0)], branches)), "order")
        self.assertEqual(walked(table, ([(0, 0), (1, 1)], [((0, 0), (0, 1), (0,))])), "nodes")
        self.assertEqual(walked(table, (nodes, [((0, 0), (0, 1), (0,))])), "branches")
        self.assertEqual(walked(table, (nodes, branches[:1])), "places")
        self.assertEqual(walked(named("00"), handed("00 01 11")), "ways")
        self.assertEqual(broken(named("00"), handed("00 01 11")), ["ways", "lost"])


class Kinds(unittest.TestCase):
    table = named("00", "11", "01")

    def kinds(self, thing):
        self.assertEqual(walked(self.table, thing), "kinds")

    def test_things_of_any_kind(self):
        for thing in others() + [list(tree(self.table)), dict(zip(*tree(self.table))), "tree"]:
            for table in [self.table, [], named(""), FOUR, CLASHES[0][0], many(40, 60)]:
                self.assertEqual(walked(table, thing), "kinds")

    def test_no_tuple_of_two_lists(self):
        nodes, branches = tree(self.table)
        for thing in [(), (nodes,), (branches,), (nodes, branches, []), (nodes, branches, branches), [nodes, branches],
                      (tuple(nodes), branches), (nodes, tuple(branches)), (nodes, None), (None, branches),
                      (nodes, {}), ({}, branches), (dict.fromkeys(nodes), branches), (nodes, "x"), ("", ""),
                      (nodes, set(branches)), (frozenset(nodes), branches), ((nodes, branches),), {0: nodes, 1: branches},
                      (iter(nodes), branches), (0, 1), (True, False), (Thing(), Thing())]:
            self.kinds(thing)

    def test_the_two_turned_about(self):
        nodes, branches = tree(self.table)
        self.kinds((branches, nodes))

    def test_a_node_of_another_kind(self):
        nodes, branches = tree(self.table)
        for node in others(tuple) + [[0, 1], (), (0,), (0, 1, 0), (0, 1) * 30, (0, 1) * 31, "01", None, (0, 1, None)]:
            for place in range(4):
                self.kinds((nodes[:place] + [node] + nodes[place:], branches))
            self.kinds(([node], []))

    def test_a_part_of_a_node_that_is_no_reading(self):
        nodes, branches = tree(self.table)
        for part in NO_READINGS + [True, False, 2, -1, "0", None, (0,), [0]]:
            for node in [(part, 1), (0, part), (part, part)]:
                self.kinds(([nodes[0], node, nodes[2]], branches))
                self.kinds((nodes, [(node, (1, 1), (0,))]))
                self.kinds((nodes, [branches[0], ((0, 0), node, (0,))]))

    def test_truths_in_a_readings_stead_though_they_are_alike(self):
        nodes, branches = tree(self.table)
        self.kinds(([(False, False), (0, 1), (1, 1)], branches))
        self.kinds(([(0, 0), (0, 1), (1, True)], branches))
        self.kinds((nodes, [((0, 0), (0, True), (1,)), branches[1]]))
        self.kinds((nodes, [((False, 0), (0, 1), (1,)), branches[1]]))
        self.kinds((nodes, [((0, 0), (0, 1), (True,)), branches[1]]))
        self.kinds((nodes, [branches[0], ((0, 1), (1, 1), (False,))]))

    def test_a_branch_of_another_kind(self):
        nodes, branches = tree(self.table)
        one, other, places = branches[0]
        for branch in others() + [(one, other), (one, other, places, ()), [one, other, places], (one, (other, places)),
                                  (one,), (one, other, places, places), None, "01", (other, places)]:
            for place in range(3):
                self.kinds((nodes, branches[:place] + [branch] + branches[place:]))

    def test_an_end_of_another_kind(self):
        nodes, branches = tree(self.table)
        for end in others(tuple) + [[0, 0], (), (0,), (0, 0, 0), None, "00", ((0, 0),)]:
            self.kinds((nodes, [(end, (0, 1), (1,)), branches[1]]))
            self.kinds((nodes, [branches[0], ((0, 1), end, (0,))]))

    def test_places_of_another_kind(self):
        nodes, branches = tree(self.table)
        for places in others(tuple) + [[1], [], "1", 1, None, {1: 1}, range(1, 2)]:
            self.kinds((nodes, [((0, 0), (0, 1), places), branches[1]]))
        for place in others(int) + [True, False, "1", None, 1.0, (1,), [1]]:
            for places in [(place,), (1, place), (place, 1)]:
                self.kinds((nodes, [((0, 0), (0, 1), places), branches[1]]))

    def test_any_whole_numbers_are_of_the_kind(self):
        nodes, branches = tree(self.table)
        for places in [(), (2,), (-1,), (10 ** 5000,), (-10 ** 5000, 10 ** 5000), tuple(range(200))]:
            self.assertEqual(walked(self.table, (nodes, [((0, 0), (0, 1), places), branches[1]])), "branches")

    def test_lists_that_hold_themselves(self):
        self.kinds((endless(), endless()))
        self.kinds(([], endless()))
        self.kinds((endless(), []))
        things = ([], [])
        things[0].append(things)
        self.kinds(things)


class OddTables(unittest.TestCase):
    def test_the_table_without_copies(self):
        self.assertIsNone(walked([], ([], [])))
        self.assertEqual(walked([], ([()], [])), "lost")
        self.assertEqual(walked([], ([(), ()], [])), "order")
        self.assertEqual(walked([], ([()], [((), (), ())])), "order")
        self.assertEqual(walked([], ([], [((), (), ())])), "order")
        self.assertEqual(walked([], ([(0,)], [])), "kinds")
        self.assertEqual(walked([], ([], [((0,), (1,), (0,))])), "kinds")
        self.assertEqual(walked([], []), "kinds")
        self.assertEqual(walked([], None), "kinds")
        self.assertEqual(walked([], ()), "kinds")

    def test_a_table_without_places(self):
        for table in [named(""), many(40, 0)]:
            self.assertIsNone(walked(table, ([()], [])))
            self.assertEqual(walked(table, ([], [])), "nodes")
            self.assertEqual(walked(table, ([()], [((), (), ())])), "order")
            self.assertEqual(walked(table, ([(0,)], [])), "kinds")

    def test_a_table_with_a_clash_has_no_tree(self):
        for table, wanted in CLASHES:
            rows = sorted({readings for name, readings in table})
            pairs = [(one, other, tuple(place for place in range(len(one)) if one[place] != other[place]))
                     for one, other in itertools.combinations(rows, 2)]
            for count in range(len(pairs) + 1):
                for branches in itertools.islice(itertools.combinations(pairs, count), 100):
                    self.assertIn(walked(table, (rows, list(branches))), ["places", "ways"])
            for thing in others() + [([], []), (rows, [])]:
                self.assertIn(walked(table, thing), WORDS)
            for words, other, told in told_trees():
                self.assertEqual(walked(table, told), broken(table, told)[0])

    def test_clashes_at_random(self):
        chance = random.Random(37)
        for turn in range(300):
            table = at_random(chance, 6, 4)
            smaller = grown_at_random(chance, 6, 4)
            thing = tree(smaller)
            so = broken(table, thing) + [None]
            self.assertEqual(walked(table, thing), so[0])

    def test_many_nodes_and_branches(self):
        nodes = sorted(itertools.product([0, 1], repeat=12))
        branches = [(nodes[number], nodes[number + 1], tuple(
            place for place in range(12) if nodes[number][place] != nodes[number + 1][place]))
                    for number in range(len(nodes) - 1)]
        table = named("0" * 12, "1" * 12)
        self.assertEqual(walked(table, (nodes, branches)), "places")
        self.assertEqual(walked(named("0" * 12), (nodes, [])), "ways")


class Refusals(unittest.TestCase):
    def test_no_table_whatever_is_handed_in_behind_it(self):
        for number, thing in enumerate(no_tables()):
            with self.subTest(number=number):
                for behind in [([], []), None, (), "x", 0, Thing(), tree(FOUR), endless()]:
                    self.assertRaises(NoTable, walked, thing, behind)

    def test_nothing_else_is_refused(self):
        for table in [[], FOUR, named(""), many(40, 60), CLASHES[3][0]]:
            for thing in others() + [(one, other) for one in others() for other in [[], None, endless()]]:
                self.assertIn(walked(table, thing), WORDS + [None])


if __name__ == "__main__":
    unittest.main()
