"""Copies and tables: what they are, and what stands at their places."""

from copykin.errors import NoName, NoPlace, NoReading, NoTable, Twice

LETTERS = "abcdefghijklmnopqrstuvwxyz"
LONGEST_NAME = 8
MOST_PLACES = 60
MOST_COPIES = 40


def is_whole(thing):
    # Python counts True and False among the ints; here they are no numbers.
    return isinstance(thing, int) and not isinstance(thing, bool)


def is_name(thing):
    if not isinstance(thing, str):
        return False
    if not 1 <= len(thing) <= LONGEST_NAME:
        return False
    return all([sign in LETTERS for sign in thing])


def is_reading(thing):
    return is_whole(thing) and thing in (0, 1)


def are_readings(thing):
    if not isinstance(thing, tuple) or len(thing) > MOST_PLACES:
        return False
    return all([is_reading(part) for part in thing])


def is_copy(thing):
    if not isinstance(thing, tuple) or len(thing) != 2:
        return False
    return is_name(thing[0]) and are_readings(thing[1])


def is_table(thing):
    if not isinstance(thing, list) or len(thing) > MOST_COPIES:
        return False
    if not all([is_copy(part) for part in thing]):
        return False
    names = [name for name, readings in thing]
    counts = [len(readings) for name, readings in thing]
    return len(set(names)) == len(names) and len(set(counts)) <= 1


# The words of a refusal never show what was handed in: a thing of any kind may fail to be shown.


def need_table(table):
    if not is_table(table):
        raise NoTable("this is no table")


def need_place(table, place):
    count = place_count(table)
    if not is_whole(place) or not 0 <= place < count:
        raise NoPlace("this is no place of the table")


def need_name(table, name):
    need_table(table)
    # is_name goes first: a thing of any kind may fail to be compared.
    if not is_name(name) or not any([name == copy[0] for copy in table]):
        raise NoName("this is no name of a copy of the table")


def need_reading(reading):
    if not is_reading(reading):
        raise NoReading("this is no reading")


def table_list(table):
    """A new table, its copies sorted by their names."""
    need_table(table)
    ordered = sorted(table, key=lambda copy: copy[0])
    # By way of a list, as tuple(readings) would give back the very tuple that was handed in.
    return [(name, tuple(list(readings))) for name, readings in ordered]


def with_copy(table, name, readings):
    """A new table, this copy behind the others, or Twice, NoTable."""
    if any([name == copy[0] for copy in table]):
        raise Twice("a copy has this name already")
    # By way of a list, as in table_list, so that nothing that was handed in is kept.
    behind = table + [(name, tuple(list(readings)))]
    need_table(behind)
    return behind


def without_copy(table, name):
    """A new table, the copy of this name left out, or NoName."""
    need_name(table, name)
    return [copy for copy in table if copy[0] != name]


def place_count(table):
    need_table(table)
    if len(table) == 0:
        return 0
    return len(table[0][1])


def torn_at(copies, place):
    found = [readings[place] for name, readings in copies]
    return 0 in found and 1 in found


def is_torn(table, place):
    """Whether the copies do not all read alike at this place."""
    need_place(table, place)
    return torn_at(table, place)


def side(table, place, reading):
    """The sorted names of the copies that read so at this place."""
    need_place(table, place)
    need_reading(reading)
    return sorted([name for name, readings in table if readings[place] == reading])
