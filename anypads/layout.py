"""Where the things in a part lie on one machine."""

from anypads.errors import NoScale
from anypads.parts import Byte, Kind, Overlay, Row, need_path, need_resolved


class Layout:
    """What has been laid out on one machine, each part once: dicts by the texts of the parts."""

    def __init__(self, machine):
        self.table = machine.table
        self.aligns = {}
        self.sizes = {}
        self.starts = {}


def need_kinds(part, kinds):
    """Raises an error if there is a use in the part, or a kind that is none of these."""
    need_resolved(part)
    for kind in part.kinds_in():
        if kind not in kinds:
            raise NoScale(f"size {kind.name}")


def raised_to(number, scale):
    """The least multiple of a scale that is not less than the number."""
    return (number + scale - 1) // scale * scale


# The functions below take parts without uses, of kinds of the machine.


def align_on(laid, part):
    """The alignment of a part."""
    if part.text not in laid.aligns:
        laid.aligns[part.text] = reckoned_align(laid, part)
    return laid.aligns[part.text]


def reckoned_align(laid, part):
    """The alignment of a part that is not laid out yet."""
    if isinstance(part, Byte):
        return 1
    if isinstance(part, Kind):
        return 1 << laid.table[f"align {part.name}"]
    if isinstance(part, Row):
        return align_on(laid, part.part)
    return max([int(align_on(laid, inner)) for name, inner in part.inside])


def size_on(laid, part):
    """The size of a part."""
    if part.text not in laid.sizes:
        laid.sizes[part.text] = reckoned_size(laid, part)
    return laid.sizes[part.text]


def reckoned_size(laid, part):
    """The size of a part that is not laid out yet."""
    if isinstance(part, Byte):
        return 1
    if isinstance(part, Kind):
        return part.times * (1 << laid.table[f"size {part.name}"])
    if isinstance(part, Row):
        return part.n * size_on(laid, part.part)
    return raised_to(last_end(laid, part), align_on(laid, part))


def packed_on(laid, record):
    """The sum of the sizes of a record's fields, rounded up to its alignment."""
    return raised_to(sum([size_on(laid, inner) for name, inner in record.fields]), align_on(laid, record))


def last_end(laid, group):
    """Where the last field of a record ends, or the greatest member of an overlay."""
    if isinstance(group, Overlay):
        return max([int(size_on(laid, inner)) for name, inner in group.members])
    return starts_on(laid, group)[-1] + size_on(laid, group.fields[-1][1])


def starts_on(laid, record):
    """The list of the places of a record's fields in it."""
    if record.text not in laid.starts:
        found = []
        end = 0
        for name, part in record.fields:
            found.append(raised_to(end, align_on(laid, part)))
            end = found[-1] + size_on(laid, part)
        laid.starts[record.text] = found
    return laid.starts[record.text]


def hops_to(part, path):
    """The list of tuples (group, index) for the steps of a path behind the first field or element of a group."""
    hops = []
    for step in path.split("."):
        steps = [name for name, inner in part.inside]
        # All members of an overlay are at its own place.
        at = 0 if isinstance(part, Overlay) else steps.index(step)
        if at > 0:
            hops.append((part, at))
        part = part[step]
    return hops


def place_on(laid, hops):
    """The place to which steps lead, as hops_to tells them."""
    return sum([hop_on(laid, group, at) for group, at in hops])


def hop_on(laid, group, at):
    """The place of the field or element with this index in its group."""
    return at * size_on(laid, group.part) if isinstance(group, Row) else starts_on(laid, group)[at]


def need_place(part, kinds, path):
    """The part to which any value leads as a path; raises what Machine.place raises on a machine of these kinds."""
    need_kinds(part, kinds)
    return need_path(part, path)
