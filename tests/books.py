"""A stand-in for a book: what functions that take one ask of it, and nothing else."""

from anypads.errors import NoName
from anypads.parts import Overlay, Record, Row, Use


class Shelf:
    def __init__(self, kinds, parts, facts=()):
        self.kinds = tuple(kinds)
        self.parts = dict(parts)
        self.facts = tuple(facts)

    def __contains__(self, name):
        return isinstance(name, str) and (name in self.parts or any(kind.name == name for kind in self.kinds))

    def __getitem__(self, name):
        if name not in self:
            raise NoName(name)
        return self.parts[name] if name in self.parts else [kind for kind in self.kinds if kind.name == name][0]

    def resolved(self, name):
        return self.filled(self[name])

    def filled(self, part):
        if isinstance(part, Use):
            return self.resolved(part.name)
        if isinstance(part, Row):
            return self.filled(part.part) * part.n
        if isinstance(part, Record):
            return Record([(name, self.filled(inner)) for name, inner in part.fields])
        if isinstance(part, Overlay):
            return Overlay([(name, self.filled(inner)) for name, inner in part.members])
        return part
