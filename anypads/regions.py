"""Regions of machines, and the least and greatest values of terms on the machines of a book."""

from anypads.claims import same
from anypads.distances import tightened
from anypads.errors import BadBound, Barred, Endless, NoName, NoScale, TooLarge
from anypads.machines import numbered
from anypads.plans import plan_of, slot_at, slot_of
from anypads.scales import BYTE, need_alike, scales_of
from anypads.settle import nothing
from anypads.splitting import Matter, let_leaves, let_zones, split
from anypads.terms import checked_parts, number, size
from anypads.verdicts import asked_plan
from anypads.views import View, added
from anypads.words import is_number, is_whole
from anypads.zones import MOST_WALKED, Zone, least_machine, narrowed, points_of, span_behind

MOST_COUNTED = 1000
MOST_BYTES = 1000


class Region:
    """A region: `pieces` are zones that have points, none of them in common."""

    def __init__(self, kinds, pieces):
        self.kinds = kinds
        self.scales = scales_of(kinds)
        self.pieces = pieces

    def __bool__(self):
        return bool(self.pieces)

    def __contains__(self, x):
        return any([x in zone for zone in self.pieces])

    def __and__(self, other):
        if not isinstance(other, Region):
            return NotImplemented
        need_alike(self, other)
        return Region(self.kinds, common(self.pieces, other.pieces))

    def __or__(self, other):
        if not isinstance(other, Region):
            return NotImplemented
        need_alike(self, other)
        return Region(self.kinds, self.pieces + without(other.pieces, self.pieces))

    def __sub__(self, other):
        if not isinstance(other, Region):
            return NotImplemented
        need_alike(self, other)
        return Region(self.kinds, without(self.pieces, other.pieces))

    def __iand__(self, other):
        return self & other

    def __ior__(self, other):
        return self | other

    def __isub__(self, other):
        return self - other

    def __le__(self, other):
        if not isinstance(other, Region):
            return NotImplemented
        need_alike(self, other)
        return without(self.pieces, other.pieces) == []

    def __eq__(self, other):
        if not isinstance(other, Region) or self.kinds != other.kinds:
            return False
        return without(self.pieces, other.pieces) == [] and without(other.pieces, self.pieces) == []

    @property
    def endless(self):
        """The tuple of the scales that have no greatest exponent in it."""
        return tuple([scale for scale in self.scales if any([(scale, BYTE) not in zone.far for zone in self.pieces])])

    def zones(self):
        """A list of zones that have points, none of them in common, and that make it up."""
        return list(self.pieces)

    def least(self):
        """Its least machine."""
        if not self.pieces:
            raise Barred()
        return least_machine(self.pieces)

    def count(self):
        """How many machines it has."""
        endless = self.endless
        if endless:
            raise Endless(endless[0])
        many = 0
        for zone in self.pieces:
            many = many + counted(zone, (), MOST_COUNTED)
            if many > MOST_COUNTED:
                raise TooLarge("machines", MOST_COUNTED)
        return many

    def ascending(self, most):
        """Yields, ascending, its machines whose exponents are at most `most`."""
        if not is_whole(most, 0, MOST_WALKED):
            raise BadBound(most)
        for numbers in points_of(self.pieces, most):
            yield numbered(self.kinds, numbers)


class Span:
    """The least and the greatest value of a term, each with the least machine on which the term has it."""

    def __init__(self, low, low_machine, high, high_machine):
        self.low = low
        self.low_machine = low_machine
        self.high = high
        self.high_machine = high_machine

    def __contains__(self, x):
        return is_number(x) and self.low <= x and (self.high is None or x <= self.high)

    def __bool__(self):
        return self.high is not None

    def __eq__(self, other):
        if not isinstance(other, Span) or self.low != other.low or self.high != other.high:
            return False
        return self.low_machine == other.low_machine and self.high_machine == other.high_machine


def region(book, claim, given=()):
    """The region of the machines on which the facts, a claim and given claims hold."""
    plan = asked_plan(book, [claim] + list(given))
    return Region(tuple(book.kinds), [thinned(zone) for zone in let_zones(split_by(book, plan, []))])


def implied(book, i, j):
    """The pair of the least and the greatest exponent of i less that of j over all machines of the facts."""
    names = (BYTE,) + scales_of(book.kinds)
    for name in (i, j):
        if name not in names:
            raise NoScale(name)
    pieces = let_zones(split_by(book, plan_of(book, book.facts), []))
    backs = [zone.far.get((j, i)) for zone in pieces]
    highs = [zone.far.get((i, j)) for zone in pieces]
    least = None if None in backs else min([int(-back) for back in backs])
    return least, None if None in highs else max([int(high) for high in highs])


def span(book, term):
    """The span of a term over all machines of the facts."""
    plan = plan_of_term(book, term)
    slots = [(slot_of(plan, (word, name, path)), many) for many, word, name, path in term.simple]
    pieces = [zone for zone, truths in let_leaves(split_by(book, plan, [slot for slot, many in slots]))]
    forms = [form_of_slots(plan, slots, zone) for zone in pieces]
    lows = [least_value(zone, form) for zone, form in zip(pieces, forms)]
    low = min([int(value) for value in lows])
    low_machine = least_machine([zone for zone, value in zip(pieces, lows) if value == low])
    tops = [top_of(zone, form) for zone, form in zip(pieces, forms)]
    if None in tops:
        return Span(low, low_machine, None, None)
    # On the least corner of a top the term has the value that it has on all machines of the top.
    highs = [least_value(zone, form) for zone, form in zip(tops, forms)]
    high = max([int(value) for value in highs])
    return Span(low, low_machine, high, least_machine([zone for zone, value in zip(tops, highs) if value == high]))


def sure(book, term):
    """The value that a term has on all machines of the facts; None if there are several."""
    told = span(book, term)
    return told.low if told.low == told.high else None


def told_sizes(book, sizes):
    """A new book like this one, with a fact more for each size that is told."""
    names = sorted([str(name) for name in sizes])
    for name in names:
        if name not in book:
            raise NoName(name)
        if not is_whole(sizes[name], 0, MOST_BYTES):
            raise BadBound(sizes[name])
    fresh = book.twin()
    fresh.set_facts(list(book.facts) + [same(size(name), number(sizes[name])) for name in names])
    return fresh


def split_by(book, plan, slots):
    """The nodes at whose leaves all claims of a plan are told, and where these hold, the slots are settled."""
    return split(Matter(tuple(book.kinds), plan, list(range(len(plan.claims))), [], slots))


def common(some, others):
    """The zones of the points that lie in some zones and in other ones."""
    found = []
    for other in others:
        needs = needs_of(other)
        found.extend([narrowed(zone, list(other.told)) for zone in some if not is_apart(zone, needs)])
    return [zone for zone in found if zone.far is not None]


def without(some, others):
    """The zones of the points that lie in some zones, but in none of the other ones."""
    pieces = list(some)
    for other in others:
        needs = needs_of(other)
        pieces = [piece for zone in pieces for piece in ([zone] if is_apart(zone, needs) else cut(zone, other))]
    return pieces


def needs_of(zone):
    """For each told bound of a zone, but the own ones, the pair (i, j) and the least number at which it can hold.

    The bound can hold in another zone whose greatest difference of i and j is not below this number.
    """
    own = Zone(*zone.kinds).told
    return [((j, i), -c) for i, j, c in zone.told if (i, j, c) not in own]


def is_apart(zone, needs):
    """Whether one of the needs of another zone is enough to keep all points of a zone out of it."""
    for pair, least in needs:
        if pair in zone.far and zone.far[pair] < least:
            return True
    return False


def cut(zone, other):
    """Zones of the points of a zone, which has some, that do not lie in another one."""
    if narrowed(zone, list(other.told)).far is None:
        return [zone]
    pieces = []
    rest = zone
    for i, j, c in other.told:
        outside = narrowed(rest, [(j, i, -c - 1)])
        if outside.far is not None:
            pieces.append(outside)
            rest = narrowed(rest, [(i, j, c)])
    return pieces


def thinned(zone):
    """A zone, which is not empty, without told bounds that follow from the others."""
    # Questions that are asked later tell more, so their bounds make up the zone sooner.
    bounds = []
    far = Zone(*zone.kinds).far
    for i, j, c in list(zone.told)[::-1]:
        if (i, j) not in far or far[i, j] > c:
            bounds.append((i, j, c))
            far = tightened(far, (i, j, c))
    return narrowed(Zone(*zone.kinds), bounds)


def counted(zone, begun, most):
    """How many points of a zone that is not endless begin with these numbers; any number above `most` if more do."""
    low, high = span_behind(zone, begun, zone.scales[len(begun)])
    if len(begun) + 1 == len(zone.scales):
        return high - low + 1
    many = 0
    for n in range(low, high + 1):
        many = many + counted(zone, begun + (n,), most)
        if many > most:
            return many
    return many


def plan_of_term(book, term):
    """A plan of the facts, with the parts of the names in a term; raises what a term in a book raises."""
    parts = checked_parts(book, term)
    plan = plan_of(book, book.facts)
    plan.parts.update(parts)
    return plan


def form_of_slots(plan, slots, zone):
    """The form of the sum of pairs (slot, many) in a zone, in which they are settled."""
    view = View(zone)
    form = nothing(view)
    for slot, many in slots:
        form = added(form, many, slot_at(plan, slot, view)[0])
    return form


def least_value(zone, form):
    """The value of a form on the least machine of a zone."""
    return sum([n << -zone.far[BYTE, name] for n, name in zip(form, zone.order)])


def top_of(zone, form):
    """The zone of the machines of a zone on which a form has its greatest value; None if there is none."""
    used = [name for n, name in zip(form, zone.order) if n > 0]
    if any([(name, BYTE) not in zone.far for name in used]):
        return None
    return narrowed(zone, [(BYTE, name, -zone.far[name, BYTE]) for name in used])
