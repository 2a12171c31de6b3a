"""Where the first copy may stand, and what is known of its readings."""

from copykin.errors import NoTable, NoTelling, Torn
from copykin.tables import is_reading, is_whole, place_count
from copykin.trees import tree


def is_telling(thing, count):
    if not isinstance(thing, tuple) or len(thing) != 2:
        return False
    if not is_whole(thing[0]) or not 0 <= thing[0] < count:
        return False
    return is_reading(thing[1])


def are_tellings(thing, count):
    """Whether these are tellings of a table with so many places."""
    if not isinstance(thing, list):
        return False
    if not all([is_telling(part, count) for part in thing]):
        return False
    return len(set([place for place, elder in thing])) == len(thing)


def need_tellings(table, tellings):
    """Refuses what are no tellings of the table, and ahead of them what is no table or one without copies."""
    count = place_count(table)
    if len(table) == 0:
        raise NoTable("a table without copies has no node")
    if not are_tellings(tellings, count):
        raise NoTelling("these are no tellings of the table")


def that_read(nodes, tellings):
    """The nodes that read as all these tellings tell."""
    return [node for node in nodes if all([node[place] == elder for place, elder in tellings])]


def refuse_torn(nodes, tellings):
    """Refuses the first two tellings, perhaps one and the same, that no node bears together."""
    for place, one in enumerate(tellings):
        for other in tellings[place:]:
            if len(that_read(nodes, [one, other])) == 0:
                # By way of lists, so that the fields are new tuples.
                raise Torn(tuple(list(one)), tuple(list(other)))


def told_nodes(nodes, tellings):
    """The nodes of a tree at which the first copy may stand, or Torn."""
    found = that_read(nodes, tellings)
    if len(found) == 0:
        # Where no node bears them all, there always are two that none bears together.
        refuse_torn(nodes, tellings)
    return found


def stands(table, tellings):
    """The sorted nodes at which the first copy may stand, or Clash, Torn."""
    need_tellings(table, tellings)
    return told_nodes(tree(table)[0], tellings)


def unknown_places(branches, nodes, tellings):
    """The places that are not told, at which the first copy may have changed amid a branch of one of these nodes."""
    told = [place for place, elder in tellings]
    found = []
    for one, other, places in branches:
        if one in nodes or other in nodes:
            found.extend([place for place in places if place not in told])
    return found


def first_read(table, tellings):
    """What the first copy read at each place, None where it isn't known, or Clash, Torn."""
    need_tellings(table, tellings)
    whole = tree(table)
    nodes = told_nodes(whole[0], tellings)
    unknown = unknown_places(whole[1], nodes, tellings)
    # At all other places these nodes read alike, so that any one of them shows what is known.
    return tuple([None if place in unknown else reading for place, reading in enumerate(nodes[0])])
