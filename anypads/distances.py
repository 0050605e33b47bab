"""Greatest differences of numbers that have names, as they follow from told bounds.

A bound is a tuple (i, j, c): the number of i less that of j is at most c. The differences are a dict from pairs of
names to the greatest difference; a pair that lacks has none. None stands for bounds that no numbers keep.
"""


def tightened(far, bound):
    """The greatest differences with one bound more."""
    if far is None:
        return None
    i, j, c = bound
    if (j, i) in far and far[j, i] + c < 0:
        return None
    if (i, j) in far and far[i, j] <= c:
        return far
    nearer = {pair: far[pair] for pair in far}
    ahead = {a: far[a, b] + c for a, b in far if b == i}
    behind = {b: far[a, b] for a, b in far if a == j}
    for a in ahead:
        for b in behind:
            most = ahead[a] + behind[b]
            if (a, b) not in nearer or most < nearer[a, b]:
                nearer[a, b] = most
    return nearer


def lies_within(far, other):
    """Whether all numbers that keep the one differences keep the other ones."""
    if far is None or other is None:
        return far is None
    return all([pair in far and far[pair] <= other[pair] for pair in other])


def ring_of(told):
    """A list of told bounds, each beginning where the one before ends, that goes round and adds up to less than 0.

    There must be one: no numbers keep the bounds that are told.
    """
    least = {}
    for i, j, c in told:
        if (i, j) not in least or c < least[i, j]:
            least[i, j] = c
    ways = {(i, j): (least[i, j], [(i, j, least[i, j])]) for i, j in least}
    while True:
        for i, j in ways:
            total, way = ways[i, j]
            if i == j and total < 0:
                return way
        ways = longer_ways(ways, least)


def longer_ways(ways, least):
    """For each pair of names the way with the least sum that has one bound more than these."""
    found = {}
    for i, j in ways:
        total, way = ways[i, j]
        for a, b in least:
            if a == j and ((i, b) not in found or total + least[a, b] < found[i, b][0]):
                found[i, b] = (total + least[a, b], way + [(a, b, least[a, b])])
    return found


def goes_round(way):
    """Whether bounds begin where the one before ends, the first where the last does, and add up to less than 0."""
    before = way[-1]
    for bound in way:
        if bound[0] != before[1]:
            return False
        before = bound
    return sum([c for i, j, c in way]) < 0
