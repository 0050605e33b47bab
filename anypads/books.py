"""Books: parts with names, and facts about them."""

from anypads.claims import Claim
from anypads.errors import BadName, BadParts, Barred, InUse, NoClaim, NoName, NoScale, Ring, Taken
from anypads.parts import Overlay, Record, Row, Use, is_part
from anypads.plans import plan_of
from anypads.scales import checked_kinds
from anypads.splitting import Matter, lets
from anypads.verdicts import decide
from anypads.words import is_name


class Book:
    """A book.

    `shelf` has the parts by their names, `whole` the resolved parts of all names, kinds too, and `kept` is the tuple
    of the facts. None of the three is ever changed itself: an edit puts new ones in their places.
    """

    def __init__(self, *kinds):
        self.kinds = checked_kinds(kinds)
        self.shelf = {}
        self.whole = {kind.name: kind for kind in self.kinds}
        self.kept = ()

    def __len__(self):
        return len(self.shelf)

    def __contains__(self, x):
        return isinstance(x, str) and x in self.whole

    def __getitem__(self, at):
        if at not in self:
            raise NoName(at)
        return self.shelf[at] if at in self.shelf else self.whole[at]

    def __iter__(self):
        raise TypeError("a book is not iterated over: take its names")

    def __setitem__(self, at, worth):
        need_part(self, at, worth)
        shelf = {name: self.shelf[name] for name in self.shelf}
        shelf[at] = worth
        settle_state(self, with_parts(self, shelf))

    def __iadd__(self, other):
        if not isinstance(other, Claim):
            raise NoClaim(0)
        settle_state(self, with_facts(self, self.kept + (other,)))
        return self

    def __call__(self, claim):
        return decide(self, claim)

    def __eq__(self, other):
        if not isinstance(other, Book) or self.kinds != other.kinds or list(self.shelf) != list(other.shelf):
            return False
        return self.kept == other.kept and all([self.shelf[name] == other.shelf[name] for name in self.shelf])

    @property
    def names(self):
        """The tuple of the names of the parts, in the order in which they were set first."""
        return tuple(self.shelf)

    @property
    def facts(self):
        """The tuple of the facts."""
        return self.kept

    @facts.setter
    def facts(self, value):
        self.set_facts(value)

    def set_facts(self, claims):
        """Puts the claims in a list or tuple in the place of all facts."""
        if not isinstance(claims, (list, tuple)):
            raise NoClaim(None)
        for at, claim in enumerate(claims):
            if not isinstance(claim, Claim):
                raise NoClaim(at)
        settle_state(self, with_facts(self, tuple(claims)))

    def drop(self, name):
        """Takes a part out."""
        if not isinstance(name, str) or name not in self.shelf:
            raise NoName(name)
        users = [other for other in self.shelf if name in self.shelf[other].uses()]
        if users:
            raise InUse(sorted([str(user) for user in users])[0])
        if any([name in fact.named() for fact in self.kept]):
            raise InUse("")
        # No part and no fact has to do with it, so there is nothing to look at again.
        self.shelf = {other: self.shelf[other] for other in self.shelf if other != name}
        self.whole = {other: self.whole[other] for other in self.whole if other != name}

    def resolved(self, name):
        """The part of a name, with the parts of the book in the place of all uses."""
        if name not in self:
            raise NoName(name)
        return self.whole[name]

    def trial(self):
        """What a with statement takes: when its block ends, parts and facts are as they were when it began."""
        return Trial(self)

    def tried(self, ask):
        """What a function returns when it is called with the book in the block of a trial."""
        with self.trial() as same:
            return ask(same)

    def twin(self):
        """Another book with the same kinds, parts and facts."""
        fresh = Book(*self.kinds)
        settle_state(fresh, self)
        return fresh


class Saved:
    """The state of a book, and the one that was saved before it."""

    def __init__(self, book, before):
        self.shelf = book.shelf
        self.whole = book.whole
        self.kept = book.kept
        self.before = before


class Trial:
    """A block at whose end a book is what it was at its beginning; it may stand within itself."""

    def __init__(self, tested):
        self.tested = tested
        self.saved = None

    def __enter__(self):
        self.saved = Saved(self.tested, self.saved)
        return self.tested

    def __exit__(self, kind, value, trace):
        tested = self.tested
        tested.shelf = self.saved.shelf
        tested.whole = self.saved.whole
        tested.kept = self.saved.kept
        self.saved = self.saved.before


def settle_state(book, other):
    """Makes the state of a book that of another one."""
    book.shelf = other.shelf
    book.whole = other.whole
    book.kept = other.kept


def need_part(book, name, part):
    """Raises an error, up to Ring, if any values cannot be a name and a part that are set."""
    if not is_name(name):
        raise BadName(name)
    if name in [kind.name for kind in book.kinds]:
        raise Taken(name)
    if not is_part(part):
        raise BadParts(None)
    for kind in part.kinds_in():
        if kind not in book.kinds:
            raise NoScale(f"size {kind.name}")
    for other in part.uses():
        if other != name and other not in book.shelf:
            raise NoName(other)
    way = ring_through(book, name, part)
    if way is not None:
        raise Ring(way)


def ring_through(book, name, part):
    """The shortest ring of uses that begins with a name that has this part, the least one of several; or None."""
    seen = {}
    ways = [(name,)]
    while ways:
        longer = []
        for way in ways:
            user = part if way[-1] == name else book.shelf[way[-1]]
            for other in user.uses():
                if other == name:
                    return way
                if other not in seen:
                    # The ways of one length are ascending, so the first one to a name is the least one.
                    seen[other] = True
                    longer.append(way + (other,))
        ways = longer
    return None


def with_parts(book, shelf):
    """A book with other parts; raises what setting a part raises behind Ring."""
    fresh = Book(*book.kinds)
    fresh.shelf = shelf
    fresh.whole = resolved_parts(book.kinds, shelf)
    return with_facts(fresh, book.kept)


def with_facts(book, facts):
    """A book with other facts, a tuple of claims; raises what setting facts raises."""
    fresh = book.twin()
    fresh.kept = facts
    plan = plan_of(fresh, facts)
    if facts and not lets(Matter(fresh.kinds, plan, list(range(len(facts))))):
        raise Barred()
    return fresh


def resolved_parts(kinds, shelf):
    """The resolved parts of all names; raises TooLarge if one of them is too deep."""
    whole = {kind.name: kind for kind in kinds}
    rest = list(shelf)[::-1]
    while rest:
        name = rest[-1]
        open_uses = [other for other in shelf[name].uses() if other not in whole]
        if open_uses:
            rest.extend(open_uses)
        else:
            whole[name] = without_uses(shelf[name], whole)
            rest.pop()
    return whole


def without_uses(part, whole):
    """The part with the parts of a dict in the place of all uses."""
    if isinstance(part, Use):
        return whole[part.name]
    if not part.uses():
        return part
    if isinstance(part, Row):
        return Row(without_uses(part.part, whole), part.n)
    pairs = [(name, without_uses(inner, whole)) for name, inner in part.inside]
    return Record(pairs) if isinstance(part, Record) else Overlay(pairs)
