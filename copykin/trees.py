"""The tree of a table without a clash."""

from copykin.clashes import refuse_clash
from copykin.tables import need_name, table_list


def group_at(copies, place):
    """The copies that read otherwise at this place than the first copy does, as the bits of a number."""
    first = copies[0][1][place]
    group = 0
    for name, readings in copies:
        group = group * 2 + (readings[place] ^ first)
    return group


def turned(readings, places):
    """New readings, the other ones at these places."""
    return tuple([1 - reading if place in places else reading for place, reading in enumerate(readings)])


def grown(copies):
    """The tree of these copies, one at least, without a clash."""
    # No group has the first copy, so without a clash any two groups lie one within the other or apart. Each group hangs
    # on a branch of its own, with its places. Below the branch the first copy's readings are turned at the places of
    # this group and of all that it lies within; above it, at those of the latter alone.
    first = copies[0][1]
    groups = [group_at(copies, place) for place in range(len(first))]
    nodes = [first]
    branches = []
    for group in sorted(set(groups)):
        # The plain places have the group without copies.
        if group == 0:
            continue
        places = [place for place in range(len(first)) if groups[place] == group]
        around = [place for place in range(len(first)) if (groups[place] & group) == group]
        below = turned(first, around)
        above = turned(below, places)
        nodes.append(below)
        branches.append((min(above, below), max(above, below), tuple(places)))
    return (sorted(nodes), sorted(branches))


def tree(table):
    """The one tree of the table, (nodes, branches), or Clash."""
    copies = table_list(table)
    refuse_clash(copies)
    if len(copies) == 0:
        return ([], [])
    return grown(copies)


def node_of(table, name):
    """The readings of the copy of this name: its node in the tree."""
    need_name(table, name)
    found = [readings for other, readings in table_list(table) if other == name]
    return found[0]
