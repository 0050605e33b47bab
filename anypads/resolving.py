"""The parts of a book without uses."""

from anypads.parts import Overlay, Record, Row, Use


def resolved_part(book, name):
    """The part that a book has under a name, with the book's parts in the place of all uses."""
    return without_uses(book, book[name])


def without_uses(book, part):
    """The part with the book's parts in the place of all uses."""
    if isinstance(part, Use):
        return resolved_part(book, part.name)
    if isinstance(part, Row):
        return Row(without_uses(book, part.part), part.n)
    pairs = [(name, without_uses(book, inner)) for name, inner in part.inside]
    if isinstance(part, Record):
        return Record(pairs)
    return Overlay(pairs) if isinstance(part, Overlay) else part
