"""Zones: all points at which told bounds on the differences of exponents hold."""

from anypads.distances import goes_round, lies_within, ring_of, tightened
from anypads.errors import BadBound, Barred, NoScale
from anypads.machines import Machine, numbered
from anypads.scales import BYTE, checked_kinds, need_alike, scales_of
from anypads.words import is_count, is_number, is_whole

MOST_WALKED = 1000


class Zone:
    """A zone.

    `order` has the names, byte first; `told` has the told bounds as its keys; `far` has the greatest differences, as
    anypads.distances tells them: it is None if the zone is empty.
    """

    MOST = 2000

    def __init__(self, *kinds):
        self.kinds = checked_kinds(kinds)
        self.scales = scales_of(self.kinds)
        self.order = (BYTE,) + self.scales
        own = own_bounds(self.kinds, self.scales)
        self.told = {bound: True for bound in own}
        # No other bound follows from the own ones, so these are all the differences that there are.
        self.far = {(i, j): 0 for i, j, c in own + [(name, name, 0) for name in self.order]}

    @classmethod
    def of(cls, kinds):
        """The zone of all points of the kinds in a list or tuple."""
        fit = checked_kinds(kinds)
        return cls(*fit)

    def __getitem__(self, at):
        i, j = at
        need_names(self, i, j)
        need_points(self)
        return self.far.get((i, j))

    def __iter__(self):
        raise TypeError("a zone is not iterated over: take walk()")

    def __bool__(self):
        return self.far is not None

    def __contains__(self, x):
        if isinstance(x, Machine):
            return x.kinds == self.kinds and keeps(self, x.table)
        return is_point(self, x) and keeps(self, {BYTE: 0, **x})

    def __and__(self, other):
        if not isinstance(other, Zone):
            return NotImplemented
        need_alike(self, other)
        return narrowed(self, list(other.told))

    def __iand__(self, other):
        return self & other

    def __le__(self, other):
        if not isinstance(other, Zone):
            return NotImplemented
        need_alike(self, other)
        return lies_within(self.far, other.far)

    def __eq__(self, other):
        return isinstance(other, Zone) and self.kinds == other.kinds and self.far == other.far

    def __str__(self):
        if self.far is None:
            return "nothing"
        return ", ".join([f"{i} - {j} <= {c}" for i, j, c in all_bounds(self)])

    def within(self, i, j, c):
        """The zone with one bound more."""
        need_bound(self, i, j, c)
        return narrowed(self, [(i, j, c)])

    def sides(self, i, j, c):
        """The zone with one bound more, and the zone of the points at which this bound does not hold."""
        need_bound(self, i, j, c)
        return narrowed(self, [(i, j, c)]), narrowed(self, [(j, i, -c - 1)])

    def least(self):
        """The least corner."""
        need_points(self)
        return dict(zip(self.scales, least_numbers(self)))

    def greatest(self):
        """The greatest number of each scale, None where there is none."""
        need_points(self)
        return {scale: self.far.get((scale, BYTE)) for scale in self.scales}

    def bounds(self):
        """Yields (i, j, greatest difference) for all pairs of unlike names that have one."""
        need_points(self)
        for bound in all_bounds(self):
            yield bound

    def ring(self):
        """None, or told bounds that go round and show that the zone is empty."""
        if self.far is not None:
            return None
        return ring_of(list(self.told))

    def is_ring(self, thing):
        """Whether any value is a ring of told bounds."""
        if not isinstance(thing, (list, tuple)) or len(thing) == 0:
            return False
        return all([is_told(self, bound) for bound in thing]) and goes_round(thing)

    def walk(self, most):
        """Yields, ascending, the points whose numbers are at most `most`."""
        if not is_whole(most, 0, MOST_WALKED):
            raise BadBound(most)
        zones = [self]
        for numbers in points_of(zones, most):
            yield dict(zip(self.scales, numbers))


def all_bounds(zone):
    """The list of (i, j, greatest difference) for all pairs of unlike names that have one; the zone is not empty."""
    pairs = [(i, j) for i in zone.order for j in zone.order if i != j and (i, j) in zone.far]
    return [(i, j, zone.far[i, j]) for i, j in pairs]


def own_bounds(kinds, scales):
    """The bounds that hold at all points of these kinds."""
    above = [(BYTE, scale, 0) for scale in scales]
    return above + [(f"align {kind.name}", f"size {kind.name}", 0) for kind in kinds]


def narrowed(zone, more):
    """The zone with more told bounds, a list."""
    far = zone.far
    for bound in more:
        far = tightened(far, bound)
    fresh = Zone(*zone.kinds)
    fresh.told = {bound: True for bound in list(zone.told) + more}
    fresh.far = far
    return fresh


def need_names(zone, i, j):
    """Raises NoScale for the first of two values that is no name of the zone."""
    for name in (i, j):
        if name not in zone.order:
            raise NoScale(name)


def need_bound(zone, i, j, c):
    """Raises an error if three values are no bound that can be told of the zone."""
    need_names(zone, i, j)
    if not is_whole(c, -Zone.MOST, Zone.MOST):
        raise BadBound(c)


def need_points(zone):
    """Raises Barred if the zone is empty."""
    if zone.far is None:
        raise Barred()


def is_told(zone, bound):
    """Whether any value is a told bound of the zone."""
    if not isinstance(bound, tuple) or len(bound) != 3:
        return False
    i, j, c = bound
    return i in zone.order and j in zone.order and is_number(c) and bound in zone.told


def is_point(zone, value):
    """Whether any value has just the zone's scales and a whole number from 0 on for each."""
    if not isinstance(value, dict) or len(value) != len(zone.scales):
        return False
    return all([scale in value and is_count(value[scale]) for scale in zone.scales])


def keeps(zone, numbers):
    """Whether the numbers of all names keep the told bounds."""
    return all([numbers[i] - numbers[j] <= c for i, j, c in zone.told])


def points_of(zones, most):
    """Yields, ascending, the numbers up to `most` of the points in zones of the same kinds."""
    boxes = [box for box in [below(zone, most) for zone in zones] if box.far is not None]
    bottoms = [max([int(number) for number in least_numbers(box)]) for box in boxes]
    tops = [greatest_number(box) for box in boxes]
    for top in range(max([int(number) for number in tops], default=-1) + 1):
        near = [below(box, top) for box, first, last in zip(boxes, bottoms, tops) if first <= top <= last]
        for numbers in filled(near, top, ()):
            yield numbers


def below(zone, most):
    """The zone of the points whose numbers are at most `most`."""
    return narrowed(zone, [(scale, BYTE, most) for scale in zone.scales])


def least_numbers(zone):
    """The tuple of the numbers of the least corner; the zone is not empty."""
    return tuple([-zone.far[BYTE, scale] for scale in zone.scales])


def greatest_number(zone):
    """The greatest number of a point; there is one."""
    return max([int(zone.far[scale, BYTE]) for scale in zone.scales])


def filled(boxes, top, begun):
    """Yields, ascending, the tuples of numbers that begin with these and have the greatest number `top`.

    They are points of some of the boxes, which are not empty, and whose points have no number above `top`.
    """
    boxes = [box for box in boxes if can_reach(box, top, begun)]
    if not boxes:
        return
    scales = boxes[0].scales
    if len(begun) == len(scales):
        yield begun
        return
    spans = [span_behind(box, begun, scales[len(begun)]) for box in boxes]
    first = min([int(low) for low, high in spans])
    last = max([int(high) for low, high in spans])
    for number in range(first, last + 1):
        longer = begun + (number,)
        lying = [box for box, (low, high) in zip(boxes, spans) if low <= number <= high]
        for numbers in filled(lying, top, longer):
            yield numbers


def can_reach(box, top, begun):
    """Whether some point of the box begins with these numbers and has the number `top`."""
    return top in begun or any([span_behind(box, begun, scale)[1] == top for scale in box.scales[len(begun):]])


def span_behind(box, begun, scale):
    """The least and the greatest number of a later scale in the points that begin with these numbers."""
    # All numbers between them stand in such a point: the differences in `far` follow from one another.
    fixed = dict(zip(box.order, (0,) + begun))
    low = max([int(fixed[name] - box.far[name, scale]) for name in fixed if (name, scale) in box.far])
    high = min([int(fixed[name] + box.far[scale, name]) for name in fixed if (scale, name) in box.far])
    return low, high


def least_machine(zones):
    """The least machine in some zones that are not empty."""
    best = None
    for zone in zones:
        machine = corner(zone)
        if best is None or machine < best:
            best = machine
    return best


def corner(zone):
    """The least machine in a zone that is not empty."""
    return numbered(zone.kinds, least_numbers(zone))
