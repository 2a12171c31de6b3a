"""What lies beside what along branches, and whether just one way leads from each to each."""


def neighbours(nodes, pairs):
    """A dict from each node to the list of those that a branch, a pair (one, other) of nodes, leads to."""
    beside = {}
    for node in nodes:
        beside[node] = []
    for one, other in pairs:
        beside[one].append(other)
        beside[other].append(one)
    return beside


def reached(beside):
    """A dict from each node that can be come to from the first one to the node ahead of it on the way, or None."""
    start = list(beside)[0]
    ahead = {start: None}
    waiting = [start]
    while len(waiting) > 0:
        node = waiting.pop()
        for near in beside[node]:
            if near not in ahead:
                ahead[near] = node
                waiting.append(near)
    return ahead


def leads_one_way(beside, pairs):
    """Whether from each node to each other one just one way leads."""
    if len(beside) == 0:
        return True
    # Nodes that all hang together have two ways somewhere just where there is a branch too many.
    return len(pairs) == len(beside) - 1 and len(reached(beside)) == len(beside)
