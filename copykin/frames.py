"""Frames: names that hang together by branches, just one way from each to each."""

from copykin.errors import NoFrame
from copykin.tables import is_name
from copykin.ways import leads_one_way, neighbours

MOST_BRANCHES = 80


def is_pair(thing):
    if not isinstance(thing, tuple) or len(thing) != 2:
        return False
    return is_name(thing[0]) and is_name(thing[1])


def names_of(frame):
    """The sorted names of the ends of these branches."""
    return sorted(set([one for one, other in frame] + [other for one, other in frame]))


def is_frame(frame, alone):
    """Whether this is a frame with this name told beside it, or with none where it has branches."""
    if not isinstance(frame, list) or len(frame) > MOST_BRANCHES:
        return False
    if len(frame) == 0:
        return is_name(alone)
    if alone is not None or not all([is_pair(branch) for branch in frame]):
        return False
    # A branch twice, turned about or of one name joins nothing new: it is one too many, or some name hangs apart.
    return leads_one_way(neighbours(names_of(frame), frame), frame)


def frame_list(frame, alone=None):
    """The sorted list of the frame's names."""
    if not is_frame(frame, alone):
        raise NoFrame("this is no frame")
    return [alone] if len(frame) == 0 else names_of(frame)
