"""What several test files hand in: things of every kind, and tables."""

import itertools


class Thing:
    """An object that can be neither compared nor shown nor hashed."""

    __hash__ = None

    def __eq__(self, other):
        raise RuntimeError("compared")

    def __repr__(self):
        raise RuntimeError("shown")


def endless():
    """A list that holds itself."""
    things = []
    things.append(things)
    return things


def others(*kinds):
    """Things of many kinds, but none of the kinds named (True and False are no ints here)."""
    things = [
        None, True, False, 0, 1, -1, 2, 10 ** 5000, 0.0, 1.0, float("nan"), 1j, "", "a", "ab", "0", "-", "a 0", "a -",
        b"a", (), (0,), (0, 1), ("a",), ("a", (0,)), [], [0], ["a"], [("a", (0,))], {}, {"a": 0}, {"a": (0,)},
        set(), {0}, frozenset(), range(2), Thing(), Thing, len, NotImplemented, ..., iter([]), endless(), [Thing()],
        (Thing(), Thing()), "a" * 30000,
    ]
    return [thing for thing in things if type(thing) not in kinds]


NO_PLACES_OF_ANY = others(int) + [-1, -2, -60, 60, 61, 10 ** 5000, -10 ** 5000]
NO_NAMES = others(str) + ["", "A", "aB", "a1", " a", "a ", "a\n", "-", "abcdefghi", "a" * 30000]
NO_READINGS = others(int) + [2, 3, -1, -2, 10, 10 ** 5000, -10 ** 5000]


def letters(number):
    """A name of its own for each number below 26 * 26."""
    return chr(ord("a") + number // 26) + chr(ord("a") + number % 26)


def many(copies, places):
    """A table of so many copies and places, its names falling."""
    return [(letters(number), tuple((number >> (place % 6)) & 1 for place in range(places)))
            for number in reversed(range(copies))]


FOUR = [
    ("d", (1, 0, 0, 1)),
    ("bb", (1, 1, 0, 0)),
    ("a", (1, 0, 0, 1)),
    ("abcdefgh", (1, 1, 0, 1)),
]


def no_tables():
    """What is no table, of each sort that the document tells, and of other kinds."""
    wrong = others(list)
    wrong += [endless(), [Thing()], [None], [0], ["a"], [[]], [{}], [True], ["ab"]]
    wrong += [tuple(FOUR), (("a", (0,)),), dict(FOUR), [list(copy) for copy in FOUR], "a 0\nb 1"]
    wrong += [[()], [("a",)], [("a", (0,), (0,))], [("a", (0,), None)], [("a", 0)], [("a", 0, 1)]]
    for name in ["", "abcdefghi", "A", "aB", "a1", "1", "a b", " a", "a ", "a\n", "\na", "a\t", "-", "a-", "a_", None,
                 True, 0, 1, b"a", ("a",), ["a"], {}, Thing()]:
        wrong += [[(name, (0, 1))], [("a", (0, 1)), (name, (0, 1)), ("c", (0, 1))], [(name, ())]]
    for part in NO_READINGS:
        wrong += [[("a", (part,))], [("a", (0, 1)), ("b", (0, part))], [("a", (part, 1)), ("b", (0, 1))]]
    for readings in others(tuple) + [[0, 1], [], "01", {0: 1}, (0,) * 61, ((0,),)]:
        wrong += [[("a", readings)], [("a", (0, 1)), ("b", readings)]]
    wrong += [
        [("a", (0,)), ("a", (0,))],
        [("a", (0,)), ("a", (1,))],
        [("a", (0,)), ("b", (1,)), ("c", (0,)), ("a", (1,))],
        [("a", ()), ("a", ())],
        [("a", (0,)), ("b", ())],
        [("a", ()), ("b", (0,))],
        [("a", (0, 1)), ("b", (0, 1)), ("c", (0, 1, 0))],
        [("a", (0, 1, 0)), ("b", (0, 1)), ("c", (0, 1))],
        many(41, 0), many(41, 3), many(100, 3), many(1, 61), many(3, 61),
        [(0, "a")], [((0,), "a")],
    ]
    return wrong


def frozen(thing):
    """A value that stays as it is: what a list, tuple or dict held, down to what can't be changed."""
    if type(thing) is list:
        return ("list",) + tuple(frozen(part) for part in thing)
    if type(thing) is dict:
        return ("dict",) + tuple((key, frozen(value)) for key, value in thing.items())
    if type(thing) is tuple:
        return tuple(frozen(part) for part in thing)
    return thing


def figures(row):
    """Readings, written as figures."""
    return tuple(int(figure) for figure in row)


def named(*rows):
    """A table of these readings, written as figures, named a, b, c .. in their order."""
    return [(chr(ord("a") + number), figures(row)) for number, row in enumerate(rows)]


def tabled(nodes):
    """A table with a copy of each of these readings."""
    return [(letters(number), node) for number, node in enumerate(nodes)]


def grown_at_random(chance, copies, places):
    """A table without a clash: each place changes at one step of a tree that is grown at random."""
    nodes = [tuple(chance.randrange(2) for place in range(places))]
    waiting = list(range(places))
    chance.shuffle(waiting)
    while waiting:
        ahead = list(chance.choice(nodes))
        for place in [waiting.pop() for step in range(min(len(waiting), chance.randrange(1, 4)))]:
            ahead[place] = 1 - ahead[place]
        nodes.append(tuple(ahead))
    return shuffled(chance, [(letters(number), chance.choice(nodes)) for number in range(copies)])


def at_random(chance, copies, places):
    """A table whose copies read anything; of several copies and places it mostly clashes."""
    return shuffled(chance, [(letters(number), tuple(chance.randrange(2) for place in range(places)))
                             for number in range(copies)])


def shuffled(chance, things):
    return chance.sample(things, len(things))


# Tables without a clash, and the trees that they have, as figures.
TREES = {
    "no copies": ([], [], []),
    "one copy": (["011"], ["011"], []),
    "one copy without places": ([""], [""], []),
    "many copies without places": (["", "", ""], [""], []),
    "copies that read alike": (["01", "01", "01"], ["01"], []),
    "two copies": (["0", "1"], ["0", "1"], [("0", "1", (0,))]),
    "two copies twice each": (["1", "0", "1", "0"], ["0", "1"], [("0", "1", (0,))]),
    "a plain place amid": (["010", "111"], ["010", "111"], [("010", "111", (0, 2))]),
    "several places on one branch": (["0000", "1101"], ["0000", "1101"], [("0000", "1101", (0, 1, 3))]),
    "a copy amid two": (["00", "11", "01"], ["00", "01", "11"], [("00", "01", (1,)), ("01", "11", (0,))]),
    "a lost copy with three branches": (
        ["100", "010", "001"], ["000", "001", "010", "100"],
        [("000", "001", (2,)), ("000", "010", (1,)), ("000", "100", (0,))]),
    "a lost copy that is the greatest": (
        ["011", "101", "110"], ["011", "101", "110", "111"],
        [("011", "111", (0,)), ("101", "111", (1,)), ("110", "111", (2,))]),
    "a lost copy with four branches": (
        ["1000", "0100", "0010", "0001"], ["0000", "0001", "0010", "0100", "1000"],
        [("0000", "0001", (3,)), ("0000", "0010", (2,)), ("0000", "0100", (1,)), ("0000", "1000", (0,))]),
    "a copy in the place of a lost one": (
        ["100", "000", "010", "001"], ["000", "001", "010", "100"],
        [("000", "001", (2,)), ("000", "010", (1,)), ("000", "100", (0,))]),
    "two lost copies, a plain place": (
        ["100000", "010000", "001001", "000101"], ["000000", "000001", "000101", "001001", "010000", "100000"],
        [("000000", "000001", (5,)), ("000000", "010000", (1,)), ("000000", "100000", (0,)),
         ("000001", "000101", (3,)), ("000001", "001001", (2,))]),
}


def told_trees():
    """Of each table of TREES: what it is, the table and its tree."""
    return [(words, named(*rows),
             ([figures(node) for node in nodes],
              [(figures(one), figures(other), places) for one, other, places in branches]))
            for words, (rows, nodes, branches) in TREES.items()]


# Tables with a clash, and the clash that each has.
CLASHES = [
    (named("00", "01", "10", "11"), (0, 1, ("a", "b", "c", "d"))),
    (named("11", "10", "01", "00"), (0, 1, ("d", "c", "b", "a"))),
    (named("11", "01", "01", "00", "00", "10", "10"), (0, 1, ("d", "b", "f", "a"))),
    (named("0001", "0100", "1001", "1101"), (0, 1, ("a", "b", "c", "d"))),
    (named("000", "001", "110", "111"), (0, 2, ("a", "b", "c", "d"))),
    (named("000", "101", "010", "111"), (0, 1, ("a", "c", "b", "d"))),
    (named("000", "010", "001", "111", "011"), (1, 2, ("a", "c", "b", "d"))),
]


def a_way(branches):
    """A frame of so many branches, one behind the other."""
    return [(letters(number), letters(number + 1)) for number in range(branches)]


def a_star(branches):
    """A frame of so many branches, all at one name."""
    return [(letters(branches), letters(number)) for number in range(branches)]


def a_comb(branches):
    """A frame of so many branches: a way with a name hanging on each of its names."""
    half = branches // 2
    return a_way(half) + [(letters(number), letters(300 + number)) for number in range(branches - half)]


def a_frame_at_random(chance, branches):
    """A frame of so many branches, in any order and either way about."""
    names = shuffled(chance, [letters(number) for number in range(branches + 1)])
    pairs = [(names[number], names[chance.randrange(number)]) for number in range(1, len(names))]
    return shuffled(chance, [pair[::chance.choice([1, -1])] for pair in pairs])


def no_frames():
    """Tuples (frame, alone) that are none, of each sort that the document tells, and of other kinds."""
    wrong = [(thing, alone) for thing in others(list) for alone in [None, "a"]]
    wrong += [(a_way(81), None), (a_star(81), None), (a_comb(81), None), (a_way(300), None), (a_way(81), "a")]
    wrong += [([], name) for name in NO_NAMES]
    for good in [[("a", "b")], a_way(3), a_star(80)]:
        wrong += [(good, alone) for alone in others() + ["z", "aa", "a", "b"] if alone is not None]
        wrong += [(good + [good[0]], None), (good + [good[0][::-1]], None), ([good[-1]] + good, None)]
        wrong += [(good + [("z", "z")], None), (good + [(good[0][0], good[0][0])], None), (good + [("y", "z")], None)]
        wrong += [([("y", "z")] + good, None), ([list(good[0])] + good[1:], None)]
        wrong += [(tuple(good), None), (dict(good), None)]
        wrong += [(good + [thing], None) for thing in others()] + [([thing] + good, None) for thing in others()]
        wrong += [(good + [("a", name)], None) for name in NO_NAMES]
        wrong += [([(name, good[0][0])] + good, None) for name in NO_NAMES]
    wrong += [([("a", "a")], None), ([("a", "a")], "a"), ([("a", "b"), ("b", "a")], None), ([("a", "b")] * 2, None)]
    wrong += [([("a",)], None), ([("a", "b", "c")], None), ([()], None), ([("a", "b", ())], None), (["ab"], None)]
    wrong += [([("a", "b"), ("b", "c"), ("c", "a")], None), ([("a", "b"), ("c", "d")], None), ([[("a", "b")]], None)]
    # As many branches as a frame of so many names would have: a ring or a branch too many, and a part that lies apart.
    wrong += [([("a", "b"), ("b", "c"), ("c", "a"), ("d", "e")], None), ([("a", "b"), ("c", "d"), ("d", "c")], None)]
    wrong += [([("a", "b"), ("c", "c"), ("d", "e"), ("a", "e")], None), ([("a", "b"), ("b", "a"), ("c", "d")], None)]
    wrong += [([("a", "b"), ("a", "b"), ("c", "d")], None), ([("a", "a"), ("b", "c")], None)]
    wrong += [(a_way(40) + [(letters(40), letters(0))], None), (a_way(79) + [(letters(3), letters(50))], None)]
    return wrong


def no_tellings(count):
    """What are no tellings of a table with so many places, one at least."""
    wrong = others(list)
    wrong += [endless(), [Thing()], [None], [0], [True], ["00"], [[]], [{}], [()], [(0,)], [(0, 0, 0)], [(0, 1, None)]]
    wrong += [[[0, 0]], [(0, 0), [0, 1]], ((0, 0),), {0: 0}, {(0, 0): True}, [((0, 0),)], [((0,), 0)], [(0, (0,))]]
    wrong += [[(0, 0), (0, 0)], [(0, 0), (0, 1)], [(0, 1), (0, 0)], [(count - 1, 1)] * 2, [(0, 0)] * 61]
    wrong += [[(place, 0)] for place in [count, count + 1, -1, -count]]
    wrong += [[(part, 0)] for part in NO_PLACES_OF_ANY] + [[(0, part)] for part in NO_READINGS]
    if count > 1:
        wrong += [[(1, 0), (part, 0)] for part in NO_PLACES_OF_ANY] + [[(1, 0), (0, part)] for part in NO_READINGS]
        wrong += [[(0, 0), (1, 0), (0, 0)], [(0, 0), (1, 0), (0, 1)], [(1, 1), (1, 1)], [(1, 0), (0, 0), (1, 1)]]
        wrong += [[(0, 0), thing] for thing in others()] + [[thing, (0, 0)] for thing in others()]
    return wrong


def tellings_at_random(chance, count, told):
    """So many tellings, of places below the count, or of all where there are less."""
    places = shuffled(chance, list(range(count)))[:told]
    return [(place, chance.randrange(2)) for place in places]


def tellings_of(chance, node, told):
    """So many tellings that this node bears."""
    places = shuffled(chance, list(range(len(node))))[:told]
    return [(place, node[place]) for place in places]


def neighbours_of(branches, node, without=None):
    """The nodes next to this one, not by the branch that is left out."""
    ends = [branch[:2] for branch in branches if branch != without and node in branch[:2]]
    return [other for pair in ends for other in pair if other != node]


def way_from(branches, start, end, without=None):
    """The nodes on the way from one to another, both among them; None where there is no way without that branch."""
    ways = [[start]]
    while ways:
        way = ways.pop()
        if way[-1] == end:
            return way
        ways += [way + [node] for node in neighbours_of(branches, way[-1], without) if node not in way]
    return None


def spots(told, tellings):
    """All spots of a tree where the first copy may stand: tuples (readings, branch), branch None at a node."""
    nodes, branches = told
    good = [node for node in nodes if all(node[place] == elder for place, elder in tellings)]
    found = [(node, None) for node in good]
    fixed = [place for place, elder in tellings]
    for branch in branches:
        free = [place for place in branch[2] if place not in fixed]
        for node in branch[:2]:
            if node in good:
                for turns in itertools.product([False, True], repeat=len(free)):
                    turned = [place for place, turn in zip(free, turns) if turn]
                    spot = tuple(1 - part if place in turned else part for place, part in enumerate(node))
                    if spot not in nodes:
                        found.append((spot, branch))
    return found


def nodes_on_the_way(told, spot, end):
    """The nodes from a spot to a node, this one among them, by walking along the branches."""
    readings, branch = spot
    if branch is None:
        return way_from(told[1], readings, end)
    ways = [way_from(told[1], start, end, branch) for start in branch[:2]]
    return [way for way in ways if way is not None][0]
