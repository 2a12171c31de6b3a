"""The fewest changes of one place along a frame, and as many ways that share no branch."""

from copykin.errors import NoFrame
from copykin.frames import frame_list
from copykin.tables import is_name, is_reading
from copykin.ways import neighbours, reached


def is_read(thing, names):
    """Whether this is a dict from some of these names to readings."""
    if not isinstance(thing, dict):
        return False
    # is_name goes first: a key of any kind may fail to be compared.
    return all([is_name(name) and name in names and is_reading(reading) for name, reading in thing.items()])


def begun_at(halves, reading):
    """Of halves of ways, tuples (reading, names), the names of those that begin at one that is read so."""
    return [names for first, names in halves if first == reading]


def joined(zeros, ones, name):
    """Ways from 0 to 1 through this name, each of two halves, as long as there are any of both."""
    return [zero + [name] + list(reversed(one)) for zero, one in zip(zeros, ones)]


def left_over(zeros, ones, name):
    """One half of those that found no other one, led on to this name; None where all did."""
    if len(zeros) > len(ones):
        return (0, zeros[len(ones)] + [name])
    if len(ones) > len(zeros):
        return (1, ones[len(zeros)] + [name])
    return None


def climbed(ahead, read):
    """The reading to which each name leans, None where it does to neither, and the ways."""
    # From the last names to the first one. Halves that come to a name from 0 and from 1 are joined there, each such
    # way for one change; of what is left over one half leads on, as there is just one branch to the name ahead. A name
    # leans to the reading at which its half begins: to read otherwise would cost one change more.
    coming = dict([(name, []) for name in ahead])
    leaning = {}
    ways = []
    for name in reversed(list(ahead)):
        zeros = begun_at(coming[name], 0)
        ones = begun_at(coming[name], 1)
        # A name that is read is the other half of each that comes against it, and one more begins there.
        if read.get(name) == 0:
            zeros = [[]] * (len(ones) + 1)
        if read.get(name) == 1:
            ones = [[]] * (len(zeros) + 1)
        ways.extend(joined(zeros, ones, name))
        half = left_over(zeros, ones, name)
        leaning[name] = None if half is None else half[0]
        if half is not None and ahead[name] is not None:
            coming[ahead[name]].append(half)
    return (leaning, ways)


def settled(ahead, leaning):
    """A reading of each name: the one that it leans to, else that of the name ahead."""
    told = {}
    for name, above in ahead.items():
        if leaning[name] is not None:
            told[name] = leaning[name]
        else:
            told[name] = 0 if above is None else told[above]
    return told


def fewest(frame, read, alone=None):
    """Readings of all names with as few changes as can be, and as many ways that share no branch, (told, ways)."""
    names = frame_list(frame, alone)
    if not is_read(read, names):
        raise NoFrame("what is read is no dict from names of the frame to readings")
    ahead = reached(neighbours(names, frame))
    found = climbed(ahead, read)
    return (settled(ahead, found[0]), found[1])
