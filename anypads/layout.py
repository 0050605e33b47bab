"""Where the things in a part lie on one machine.

All functions but the first and the last take parts without uses, of kinds of the machine.
"""

from anypads.errors import NoScale
from anypads.parts import Byte, Kind, Overlay, Record, Row, need_path, need_resolved


def need_kinds(part, kinds):
    """Raises an error if there is a use in the part, or a kind that is none of these."""
    need_resolved(part)
    for kind in part.kinds_in():
        if kind not in kinds:
            raise NoScale(f"size {kind.name}")


def raised_to(number, scale):
    """The least multiple of a scale that is not less than the number."""
    return (number + scale - 1) // scale * scale


def align_on(machine, part):
    """The alignment of a part."""
    if isinstance(part, Byte):
        return 1
    if isinstance(part, Kind):
        return 1 << machine[f"align {part.name}"]
    if isinstance(part, Row):
        return align_on(machine, part.part)
    return max([int(align_on(machine, inner)) for name, inner in part.inside])


def size_on(machine, part):
    """The size of a part."""
    if isinstance(part, Byte):
        return 1
    if isinstance(part, Kind):
        return part.times * (1 << machine[f"size {part.name}"])
    if isinstance(part, Row):
        return part.n * size_on(machine, part.part)
    return raised_to(last_end(machine, part), align_on(machine, part))


def packed_on(machine, record):
    """The sum of the sizes of a record's fields, rounded up to its alignment."""
    return raised_to(sum([size_on(machine, inner) for name, inner in record.fields]), align_on(machine, record))


def last_end(machine, group):
    """Where the last field of a record ends, or the greatest member of an overlay."""
    if isinstance(group, Overlay):
        return max([int(size_on(machine, inner)) for name, inner in group.members])
    name, part = group.fields[-1]
    return field_places(machine, group)[name] + size_on(machine, part)


def field_places(machine, record):
    """A dict from the names of a record's fields to their places in it."""
    places = {}
    end = 0
    for name, part in record.fields:
        places[name] = raised_to(end, align_on(machine, part))
        end = places[name] + size_on(machine, part)
    return places


def step_place(machine, part, step):
    """The place, within a part, of that to which one step leads from it."""
    if isinstance(part, Record):
        return field_places(machine, part)[step]
    if isinstance(part, Row):
        return int(step) * size_on(machine, part.part)
    return Overlay.AT


def reached(machine, part, path):
    """The place of a path in any part, and the part there; raises what Machine.place raises."""
    need_kinds(part, machine.kinds)
    goal = need_path(part, path)
    place = 0
    for step in path.split("."):
        place = place + step_place(machine, part, step)
        part = part[step]
    return place, goal
