"""Kinds and parts: rows, records, overlays and uses; their paths and units."""

from anypads.errors import BadName, BadParts, BadTimes, NoPath, TooLarge, Unresolved
from anypads.words import is_name, is_whole

MOST_TIMES = 8


class Part:
    """The base of all parts.

    `inside` has a tuple (step, part) for each step that leads on from here.
    `traits` are the attributes that two equal parts have in common.
    `text` is how it is written: of the parts that are made of the same kinds, only equal ones are written alike.
    `ends` has the different kinds and uses at the bottom, by a text for each.
    `weight` is its units, if there is no use in it.
    """

    DEPTH = 4

    def __init__(self, text="", traits=(), inside=(), weight=1):
        depth = max([int(part.depth) + 1 for step, part in inside], default=0)
        if depth > Part.DEPTH:
            raise TooLarge("depth", Part.DEPTH)
        ends = {}
        for step, part in inside:
            ends.update(part.ends)
        self.text = text
        self.traits = traits
        self.inside = inside
        self.ends = ends
        self.weight = weight
        self.depth = depth

    def __eq__(self, other):
        if not isinstance(other, Part):
            return False
        return self.__class__.__name__ == other.__class__.__name__ and self.traits == other.traits

    def __mul__(self, other):
        return Row(self, other)

    def __getitem__(self, at):
        return need_path(self, at)

    def __contains__(self, x):
        return led(self, x, True)[0] is not None

    def __iter__(self):
        raise TypeError("a part is not iterated over: take its paths()")

    def paths(self):
        """Yields the paths of fields and members, each ahead of those within it; none goes into a row."""
        if isinstance(self, Row):
            return
        for name, part in self.inside:
            yield name
            for path in part.paths():
                yield f"{name}.{path}"

    def kinds_in(self):
        """The tuple of the different kinds in it, by name, then by times."""
        # Times have one figure and a space comes ahead of all letters, so these texts have the order of the kinds.
        texts = sorted([str(text) for text in self.ends])
        return tuple([self.ends[text] for text in texts if isinstance(self.ends[text], Kind)])

    def uses(self):
        """The ascending tuple of the names of the uses in it."""
        texts = sorted([str(text) for text in self.ends])
        return tuple([self.ends[text].name for text in texts if isinstance(self.ends[text], Use)])

    def put(self, path, other):
        """The part with another one at a path that has no number of an element."""
        found, lost = led(self, path, False)
        if found is None:
            raise NoPath(path, lost)
        if not is_part(other):
            raise BadParts(0)
        return with_other(self, path.split("."), other)


class Kind(Part):
    """A kind: a name, and the number by which its size scale is multiplied."""

    def __init__(self, name, times=1):
        if not is_name(name):
            raise BadName(name)
        if not is_whole(times, 1, MOST_TIMES):
            raise BadTimes(times)
        Part.__init__(self, name, (name, times), (), times)
        self.ends = {f"{name} {times}": self}
        self.name = name
        self.times = times

    def __str__(self):
        return str(self.text)


class Byte(Part):
    """The byte."""

    def __init__(self):
        Part.__init__(self, "byte")

    def __str__(self):
        return str(self.text)


class Use(Part):
    """The name of a part of a book, which stands for that part."""

    def __init__(self, name):
        if not is_name(name):
            raise BadName(name)
        Part.__init__(self, f"@{name}", (name,))
        self.ends = {self.text: self}
        self.name = name

    def __str__(self):
        return str(self.text)


class Group(Part):
    """The base of the parts that are made of others."""

    def __len__(self):
        return len(self.inside)


class Spread(Part):
    """The second base of overlays: all that is in it begins at one place."""

    AT = 0


class Row(Group):
    """Like parts, one behind another."""

    MOST = 64

    def __init__(self, part, n):
        if not is_part(part):
            raise BadParts(0)
        if not is_whole(n, 1, Row.MOST):
            raise BadTimes(n)
        Group.__init__(self, f"{n}*{part.text}", (part, n), tuple([(str(k), part) for k in range(n)]), n * part.weight)
        self.part = part
        self.n = n

    def __str__(self):
        return str(self.text)


class Record(Group):
    """Fields with names, one behind another."""

    MOST = 8

    def __init__(self, fields):
        pairs = checked_pairs(fields, Record.MOST)
        written = " ".join([f"{name}:{part.text}" for name, part in pairs])
        weight = sum([part.weight + 1 for name, part in pairs])
        Group.__init__(self, "".join(["{", written, "}"]), pairs, pairs, weight)
        self.fields = pairs

    def __add__(self, other):
        if not isinstance(other, Record):
            return NotImplemented
        return Record(self.fields + other.fields)

    def __str__(self):
        return str(self.text)


class Overlay(Group, Spread):
    """Members with names, all at one place."""

    MOST = 4

    def __init__(self, members):
        pairs = checked_pairs(members, Overlay.MOST)
        written = "|".join([f"{name}:{part.text}" for name, part in pairs])
        weight = max([int(part.weight) for name, part in pairs]) + 1
        Group.__init__(self, f"({written})", pairs, pairs, weight)
        self.members = pairs

    def __or__(self, other):
        if not isinstance(other, Overlay):
            return NotImplemented
        return Overlay(self.members + other.members)

    def __str__(self):
        return str(self.text)


def is_part(value):
    """Whether any value is a part: the bases alone make none."""
    return isinstance(value, (Kind, Byte, Use, Row, Record, Overlay))


def checked_pairs(pairs, most):
    """The tuple of the tuples (name, part), if they can be fields or members."""
    if not isinstance(pairs, (list, tuple)) or not 1 <= len(pairs) <= most:
        raise BadParts(None)
    found = {}
    for at, pair in enumerate(pairs):
        if not is_pair(pair) or pair[0] in found:
            raise BadParts(at)
        found[pair[0]] = True
    return tuple(pairs)


def is_pair(value):
    """Whether any value is a tuple (name, part)."""
    return isinstance(value, tuple) and len(value) == 2 and is_name(value[0]) and is_part(value[1])


def stepped(part, step):
    """The part to which one step leads, or None."""
    for name, inner in part.inside:
        if name == step:
            return inner
    return None


def led(part, path, rows):
    """The part to which a path leads and None; or None and the index of the step that leads nowhere.

    `rows` tells whether a step may lead into a row.
    """
    if not isinstance(path, str):
        return None, 0
    for at, step in enumerate(path.split(".")):
        part = stepped(part, step) if rows or not isinstance(part, Row) else None
        if part is None:
            return None, at
    return part, None


def need_path(part, path):
    """The part to which any value leads as a path; raises NoPath if it leads to none."""
    found, lost = led(part, path, True)
    if found is None:
        raise NoPath(path, lost)
    return found


def with_other(part, steps, other):
    """The part with another one where steps, all of them names, lead."""
    if not steps:
        return other
    pairs = []
    for name, inner in part.inside:
        pairs.append((name, with_other(inner, steps[1:], other) if name == steps[0] else inner))
    return Record(pairs) if isinstance(part, Record) else Overlay(pairs)


def need_resolved(part):
    """Raises Unresolved with the least name of a use in the part, if there is one."""
    names = part.uses()
    if names:
        raise Unresolved(names[0])


def units(part):
    """The units of a part."""
    need_resolved(part)
    return part.weight
