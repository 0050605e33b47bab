"""The kinds that a machine, a zone or a book has, and the texts of their scales."""

from anypads.errors import BadParts, NoScale, Taken
from anypads.parts import Kind
from anypads.words import is_name

MOST_KINDS = 3
BYTE = "byte"


def checked_kinds(kinds):
    """The tuple of any value, if it is a list or tuple of one to three kinds with unlike names."""
    if not isinstance(kinds, (list, tuple)) or not 1 <= len(kinds) <= MOST_KINDS:
        raise BadParts(None)
    for at, kind in enumerate(kinds):
        if not isinstance(kind, Kind):
            raise BadParts(at)
    earlier = {}
    for kind in kinds:
        if kind.name in earlier:
            raise Taken(kind.name)
        earlier[kind.name] = True
    return tuple(kinds)


def scales_of(kinds):
    """The tuple of the texts of the kinds' scales, in their order."""
    return tuple([f"{word} {kind.name}" for kind in kinds for word in ("size", "align")])


def is_scale(value):
    """Whether any value is the text of a scale, of whatever kind."""
    if not isinstance(value, str):
        return False
    word, _, name = value.partition(" ")
    return value == BYTE or word in ("size", "align") and is_name(name)


def need_alike(one, other):
    """Raises NoScale(None) if two machines or zones have not the same kinds, in the same order."""
    if one.kinds != other.kinds:
        raise NoScale(None)
