"""Copies that surely come of other copies, and are set aside."""

from copykin.errors import NoName
from copykin.standing import first_read, need_tellings
from copykin.tables import need_name, table_list
from copykin.trees import node_of


def is_behind(node, other, known):
    """Whether the other node lies on the way to this one from wherever the first copy may stand."""
    # It lies on the way from a spot just where it reads, at each place, as the spot or as this node does: each place
    # changes on one branch alone. So where the two read otherwise, all spots must read as the other one, which is to
    # say that what the first copy read there is known.
    return all([there == here or there == first for here, there, first in zip(node, other, known)])


def comes(copy, other, known):
    """Whether the copy comes of the other one, where this is known of the first copy."""
    if copy[1] == other[1]:
        return other[0] < copy[0]
    return is_behind(copy[1], other[1], known)


def comes_of(table, tellings, name, other):
    """Whether the copy of this name comes of the other one, or Clash, Torn."""
    need_tellings(table, tellings)
    need_name(table, name)
    need_name(table, other)
    if name == other:
        raise NoName("a copy and another one are asked for, not one copy twice")
    known = first_read(table, tellings)
    return comes((name, node_of(table, name)), (other, node_of(table, other)), known)


def set_aside(table, tellings):
    """The sorted names of all copies that come of others, or Clash, Torn."""
    known = first_read(table, tellings)
    copies = table_list(table)
    return [copy[0] for copy in copies if any([comes(copy, other, known) for other in copies])]
