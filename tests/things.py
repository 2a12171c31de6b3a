"""What several test files hand in: things of every kind, and tables."""


class Thing:
    """An object that can be neither compared nor shown nor hashed."""

    __hash__ = None

    def __eq__(self, other):
        raise RuntimeError("compared")

    def __repr__(self):
        raise RuntimeError("shown")


def endless():
    """A list that holds itself."""
    things = []
    things.append(things)
    return things


def others(*kinds):
    """Things of many kinds, but none of the kinds named (True and False are no ints here)."""
    things = [
        None, True, False, 0, 1, -1, 2, 10 ** 5000, 0.0, 1.0, float("nan"), 1j, "", "a", "ab", "0", "-", "a 0", "a -",
        b"a", (), (0,), (0, 1), ("a",), ("a", (0,)), [], [0], ["a"], [("a", (0,))], {}, {"a": 0}, {"a": (0,)},
        set(), {0}, frozenset(), range(2), Thing(), Thing, len, NotImplemented, ..., iter([]), endless(), [Thing()],
        (Thing(), Thing()), "a" * 30000,
    ]
    return [thing for thing in things if type(thing) not in kinds]


NO_PLACES_OF_ANY = others(int) + [-1, -2, -60, 60, 61, 10 ** 5000, -10 ** 5000]
NO_READINGS = others(int) + [2, 3, -1, -2, 10, 10 ** 5000, -10 ** 5000]


def letters(number):
    """A name of its own for each number below 26 * 26."""
    return chr(ord("a") + number // 26) + chr(ord("a") + number % 26)


def many(copies, places):
    """A table of so many copies and places, its names falling."""
    return [(letters(number), tuple((number >> (place % 6)) & 1 for place in range(places)))
            for number in reversed(range(copies))]


FOUR = [
    ("d", (1, 0, 0, 1)),
    ("bb", (1, 1, 0, 0)),
    ("a", (1, 0, 0, 1)),
    ("abcdefgh", (1, 1, 0, 1)),
]


def no_tables():
    """What is no table, of each sort that the document tells, and of other kinds."""
    wrong = others(list)
    wrong += [endless(), [Thing()], [None], [0], ["a"], [[]], [{}], [True], ["ab"]]
    wrong += [tuple(FOUR), (("a", (0,)),), dict(FOUR), [list(copy) for copy in FOUR], "a 0\nb 1"]
    wrong += [[()], [("a",)], [("a", (0,), (0,))], [("a", (0,), None)], [("a", 0)], [("a", 0, 1)]]
    for name in ["", "abcdefghi", "A", "aB", "a1", "1", "a b", " a", "a ", "a\n", "\na", "a\t", "-", "a-", "a_", None,
                 True, 0, 1, b"a", ("a",), ["a"], {}, Thing()]:
        wrong += [[(name, (0, 1))], [("a", (0, 1)), (name, (0, 1)), ("c", (0, 1))], [(name, ())]]
    for part in NO_READINGS:
        wrong += [[("a", (part,))], [("a", (0, 1)), ("b", (0, part))], [("a", (part, 1)), ("b", (0, 1))]]
    for readings in others(tuple) + [[0, 1], [], "01", {0: 1}, (0,) * 61, ((0,),)]:
        wrong += [[("a", readings)], [("a", (0, 1)), ("b", readings)]]
    wrong += [
        [("a", (0,)), ("a", (0,))],
        [("a", (0,)), ("a", (1,))],
        [("a", (0,)), ("b", (1,)), ("c", (0,)), ("a", (1,))],
        [("a", ()), ("a", ())],
        [("a", (0,)), ("b", ())],
        [("a", ()), ("b", (0,))],
        [("a", (0, 1)), ("b", (0, 1)), ("c", (0, 1, 0))],
        [("a", (0, 1, 0)), ("b", (0, 1)), ("c", (0, 1))],
        many(41, 0), many(41, 3), many(100, 3), many(1, 61), many(3, 61),
        [(0, "a")], [((0,), "a")],
    ]
    return wrong


def frozen(thing):
    """A value that stays as it is: what a list or dict held, down to what can't be changed."""
    if type(thing) is list:
        return ("list",) + tuple(frozen(part) for part in thing)
    if type(thing) is dict:
        return ("dict",) + tuple((key, frozen(value)) for key, value in thing.items())
    return thing
