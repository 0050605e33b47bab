"""The kinds that a machine has, and the texts of their scales."""

from anypads.errors import BadParts, Taken
from anypads.parts import Kind

MOST_KINDS = 3


def checked_kinds(kinds):
    """The tuple of any value, if it is a list or tuple of one to three kinds with unlike names."""
    if not isinstance(kinds, (list, tuple)) or not 1 <= len(kinds) <= MOST_KINDS:
        raise BadParts(None)
    for at, kind in enumerate(kinds):
        if not isinstance(kind, Kind):
            raise BadParts(at)
    earlier = {}
    for kind in kinds:
        if kind.name in earlier:
            raise Taken(kind.name)
        earlier[kind.name] = True
    return tuple(kinds)


def scales_of(kinds):
    """The tuple of the texts of the kinds' scales, in their order."""
    return tuple([f"{word} {kind.name}" for kind in kinds for word in ("size", "align")])
