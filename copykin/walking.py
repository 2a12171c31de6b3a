"""The walk of what somebody hands in as the tree of a table."""

from copykin.tables import are_readings, is_whole, place_count, table_list, torn_at
from copykin.ways import leads_one_way, neighbours


def is_node(thing, count):
    return are_readings(thing) and len(thing) == count


def is_branch(thing, count):
    if not isinstance(thing, tuple) or len(thing) != 3:
        return False
    if not is_node(thing[0], count) or not is_node(thing[1], count):
        return False
    return isinstance(thing[2], tuple) and all([is_whole(place) for place in thing[2]])


def has_kinds(thing, count):
    """Whether this is of the kinds of a tree with so many places; asked ahead of whatever compares its parts."""
    if not isinstance(thing, tuple) or len(thing) != 2:
        return False
    if not isinstance(thing[0], list) or not isinstance(thing[1], list):
        return False
    if not all([is_node(node, count) for node in thing[0]]):
        return False
    return all([is_branch(branch, count) for branch in thing[1]])


def rises(things):
    """Whether these are sorted and none stands twice."""
    return all([one < other for one, other in zip(things, things[1:])])


def has_order(nodes, branches):
    if not rises(nodes) or not rises(branches):
        return False
    return all([one < other and rises(places) for one, other, places in branches])


def marked(nodes):
    """A dict of these nodes, to be asked for one without a walk through all."""
    return dict([(node, True) for node in nodes])


def has_nodes(copies, nodes, branches):
    """Whether all ends of branches and all copies' readings are nodes."""
    known = marked(nodes)
    if not all([one in known and other in known for one, other, places in branches]):
        return False
    return all([readings in known for name, readings in copies])


def unlike_places(one, other):
    return tuple([place for place in range(len(one)) if one[place] != other[place]])


def has_branches(branches):
    """Whether each branch's ends read otherwise at just its places."""
    # Ends that are in order are unlike, so a branch without a place fails here too.
    return all([unlike_places(one, other) == places for one, other, places in branches])


def has_places(copies, count, branches):
    """Whether each torn place stands on just one branch, and no plain one on any."""
    standing = [0] * count
    for one, other, places in branches:
        for place in places:
            standing[place] += 1
    return all([standing[place] == (1 if torn_at(copies, place) else 0) for place in range(count)])


def has_lost(copies, beside):
    """Whether each node that is no copy's readings has three branches at least."""
    known = marked([readings for name, readings in copies])
    return all([node in known or len(near) >= 3 for node, near in beside.items()])


def walked(table, thing):
    """None where this thing is the tree of the table, else the first word of what is wrong with it."""
    copies = table_list(table)
    count = place_count(copies)
    if not has_kinds(thing, count):
        return "kinds"
    nodes = thing[0]
    branches = thing[1]
    if not has_order(nodes, branches):
        return "order"
    if not has_nodes(copies, nodes, branches):
        return "nodes"
    if not has_branches(branches):
        return "branches"
    if not has_places(copies, count, branches):
        return "places"
    pairs = [(one, other) for one, other, places in branches]
    beside = neighbours(nodes, pairs)
    if not leads_one_way(beside, pairs):
        return "ways"
    return None if has_lost(copies, beside) else "lost"
