"""Copies without which a table has a tree, and copies that could be mixed of two others."""

from copykin.clashes import clash
from copykin.tables import table_list, without_copy
from copykin.trees import node_of


def mixers(table):
    """The sorted names of all copies without any one of which the table doesn't clash; [] where it doesn't anyway."""
    found = clash(table)
    if found is None:
        return []
    # Without a mixer these two places must not clash either, so it alone is of its kind there, and is one of the four.
    return sorted([name for name in found[2] if clash(without_copy(table, name)) is None])


def mixed(table, name):
    """All (place, one, other), sorted, such that the copy reads as one below this place and as other from it on."""
    node = node_of(table, name)
    copies = without_copy(table_list(table), name)
    found = []
    for place in range(1, len(node)):
        below = [one for one, readings in copies if readings[:place] == node[:place]]
        above = [other for other, readings in copies if readings[place:] == node[place:]]
        for one in below:
            found.extend([(place, one, other) for other in above if other != one])
    return found
