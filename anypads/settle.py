"""What is settled in a zone of forms, scales and parts: points 18 to 21."""

from anypads.errors import NoScale, NotRecord
from anypads.forms import Form
from anypads.layout import need_kinds
from anypads.parts import Byte, Kind, Record, Row, need_path
from anypads.rules import greatest_at, greatest_of, is_at_most, is_same, round_up
from anypads.scales import BYTE
from anypads.zones import need_points


def rounded(zone, form, scale):
    """A form rounded up to a scale; None if that is not settled."""
    need_settled(zone, form.scales + (scale,))
    return round_up(zone, form, scale)


def form_at_most(zone, one, other):
    """Whether the one form is at most the other one; None if that is not settled."""
    need_settled(zone, one.scales + other.scales)
    return is_at_most(zone, one, other)


def form_same(zone, one, other):
    """Whether two forms are the same; None if that is not settled."""
    need_settled(zone, one.scales + other.scales)
    return is_same(zone, one, other)


def greatest_form(zone, forms):
    """The index of the first greatest form; None if that is not settled."""
    need_settled(zone, [scale for form in forms for scale in form.scales])
    return greatest_at(zone, forms)


def greatest_scale(zone, scales):
    """The first greatest scale; None if that is not settled."""
    need_settled(zone, scales)
    return greatest_of(zone, scales)


def align_scale(zone, part):
    """The scale that is the alignment of a part; None if that is not settled."""
    need_kinds(part, zone.kinds)
    need_points(zone)
    return align_in(zone, part)


def size_form(zone, part):
    """The form of the size of a part; None if that is not settled."""
    need_kinds(part, zone.kinds)
    need_points(zone)
    return size_in(zone, part)


def place_form(zone, part, path):
    """The form of the place of a path; None if that is not settled."""
    need_kinds(part, zone.kinds)
    need_path(part, path)
    need_points(zone)
    return place_in(zone, part, path)


def end_form(zone, part, path):
    """The form of the end of a path; None if that is not settled."""
    need_kinds(part, zone.kinds)
    need_path(part, path)
    need_points(zone)
    return end_in(zone, part, path)


def packed_form(zone, record):
    """The form of the packed size of a record; None if that is not settled."""
    need_kinds(record, zone.kinds)
    if not isinstance(record, Record):
        raise NotRecord(None)
    need_points(zone)
    return packed_in(zone, record)


def need_settled(zone, scales):
    """Raises NoScale with the least of the scales that the zone lacks, if there is one; Barred if the zone is empty."""
    for scale in sorted([str(each) for each in scales]):
        if scale not in zone.order:
            raise NoScale(scale)
    need_points(zone)


# The functions below take parts without uses, of kinds of the zone, paths that lead somewhere, and zones with points.


def align_in(zone, part):
    """The scale that is the alignment of a part, or None."""
    if isinstance(part, Byte):
        return BYTE
    if isinstance(part, Kind):
        return f"align {part.name}"
    if isinstance(part, Row):
        return align_in(zone, part.part)
    scales = [align_in(zone, inner) for name, inner in part.inside]
    return None if None in scales else greatest_of(zone, scales)


def size_in(zone, part):
    """The form of the size of a part, or None."""
    if isinstance(part, Byte):
        return Form.of(BYTE)
    if isinstance(part, Kind):
        return Form.of(f"size {part.name}", part.times)
    if isinstance(part, Row):
        return multiple(part.n, size_in(zone, part.part))
    if isinstance(part, Record):
        return rounded_for(zone, last_end_in(zone, part), part)
    return rounded_for(zone, greatest_size(zone, part), part)


def rounded_for(zone, form, part):
    """The form, or None, rounded up to the alignment of a part; or None."""
    if form is None:
        return None
    scale = align_in(zone, part)
    return None if scale is None else round_up(zone, form, scale)


def total(one, other):
    """The sum of two forms; None if one of them is None."""
    return None if one is None or other is None else one + other


def multiple(n, form):
    """The form n times; None if it is None."""
    return None if form is None else n * form


def last_end_in(zone, record):
    """The form of the end of the last field of a record, or None."""
    last = len(record) - 1
    return total(field_place(zone, record, last), size_in(zone, record.fields[last][1]))


def greatest_size(zone, overlay):
    """The form of the greatest size of a member, or None."""
    forms = [size_in(zone, part) for name, part in overlay.members]
    if any([form is None for form in forms]):
        return None
    at = greatest_at(zone, forms)
    return None if at is None else forms[at]


def field_place(zone, record, at):
    """The form of the place of the field with this index in its record, or None."""
    place = Form({})
    for k in range(at):
        end = total(place, size_in(zone, record.fields[k][1]))
        place = rounded_for(zone, end, record.fields[k + 1][1])
        if place is None:
            return None
    return place


def step_place_in(zone, part, step):
    """The form of the place, within a part, of that to which one step leads; or None."""
    if isinstance(part, Record):
        names = [name for name, inner in part.fields]
        return field_place(zone, part, names.index(step))
    if isinstance(part, Row) and step != "0":
        return multiple(int(step), size_in(zone, part.part))
    return Form({})


def place_in(zone, part, path):
    """The form of the place of a path, or None."""
    place = Form({})
    for step in path.split("."):
        place = total(place, step_place_in(zone, part, step))
        part = part[step]
    return place


def end_in(zone, part, path):
    """The form of the end of a path, or None."""
    return total(place_in(zone, part, path), size_in(zone, part[path]))


def packed_in(zone, record):
    """The form of the packed size of a record, or None."""
    form = Form({})
    for name, part in record.fields:
        form = total(form, size_in(zone, part))
    return rounded_for(zone, form, record)
