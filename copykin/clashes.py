"""Two places, and four copies that read all four ways there."""

from copykin.errors import Clash
from copykin.tables import need_place, place_count, table_list

KINDS = ((0, 0), (0, 1), (1, 0), (1, 1))


def first_of_kinds(copies, one, other):
    """The names of the first copy of each of the four kinds, or None where not all four are there."""
    found = {}
    for name, readings in copies:
        found.setdefault((readings[one], readings[other]), name)
    if len(found) < len(KINDS):
        return None
    return tuple([found[kind] for kind in KINDS])


def places_clash(table, one, other):
    """Whether there are copies of all four kinds at these two places."""
    need_place(table, one)
    need_place(table, other)
    return first_of_kinds(table, one, other) is not None


def clash(table):
    """The first two places that clash and the first copies that show it, (one, other, names), or None."""
    copies = table_list(table)
    count = place_count(copies)
    for one in range(count):
        for other in range(one + 1, count):
            names = first_of_kinds(copies, one, other)
            if names is not None:
                return (one, other, names)
    return None


def refuse_clash(table):
    """Refuses a table that has a clash, with its fields."""
    found = clash(table)
    if found is not None:
        raise Clash(found[0], found[1], found[2])
