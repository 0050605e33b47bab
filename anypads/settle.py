"""What is settled in a zone of forms, scales and parts: points 18 to 21."""

from anypads.errors import NoScale, NotRecord
from anypads.forms import form_of
from anypads.layout import hops_to, need_kinds
from anypads.parts import Byte, Kind, Record, Row, need_path
from anypads.scales import BYTE
from anypads.views import View, greatest_at, greatest_of, is_at_most, is_same, less_by, round_up, sum_of, times
from anypads.zones import need_points


def rounded(zone, form, scale):
    """A form rounded up to a scale; None if that is not settled."""
    need_settled(zone, form.scales + (scale,))
    return form_told(zone, round_up(View(zone), numbers_of(zone, form), zone.order.index(scale)))


def form_at_most(zone, one, other):
    """Whether the one form is at most the other one; None if that is not settled."""
    need_settled(zone, one.scales + other.scales)
    return is_at_most(View(zone), less_by(numbers_of(zone, one), numbers_of(zone, other)))[0]


def form_same(zone, one, other):
    """Whether two forms are the same; None if that is not settled."""
    need_settled(zone, one.scales + other.scales)
    return is_same(View(zone), less_by(numbers_of(zone, one), numbers_of(zone, other)))[0]


def greatest_form(zone, forms):
    """The index of the first greatest form; None if that is not settled."""
    need_settled(zone, [scale for form in forms for scale in form.scales])
    return greatest_at(View(zone), [numbers_of(zone, form) for form in forms])[0]


def greatest_scale(zone, scales):
    """The first greatest scale; None if that is not settled."""
    need_settled(zone, scales)
    return scale_told(zone, greatest_of(View(zone), [zone.order.index(scale) for scale in scales]))


def align_scale(zone, part):
    """The scale that is the alignment of a part; None if that is not settled."""
    need_kinds(part, zone.kinds)
    need_points(zone)
    return scale_told(zone, align_at(View(zone), part))


def size_form(zone, part):
    """The form of the size of a part; None if that is not settled."""
    need_kinds(part, zone.kinds)
    need_points(zone)
    return form_told(zone, size_at(View(zone), part))


def place_form(zone, part, path):
    """The form of the place of a path; None if that is not settled."""
    need_kinds(part, zone.kinds)
    need_path(part, path)
    need_points(zone)
    return form_told(zone, place_at(View(zone), hops_to(part, path)))


def end_form(zone, part, path):
    """The form of the end of a path; None if that is not settled."""
    need_kinds(part, zone.kinds)
    goal = need_path(part, path)
    need_points(zone)
    view = View(zone)
    return form_told(zone, total(place_at(view, hops_to(part, path)), size_at(view, goal)))


def packed_form(zone, record):
    """The form of the packed size of a record; None if that is not settled."""
    need_kinds(record, zone.kinds)
    if not isinstance(record, Record):
        raise NotRecord(None)
    need_points(zone)
    return form_told(zone, packed_at(View(zone), record))


def need_settled(zone, scales):
    """Raises NoScale with the least of the scales that the zone lacks, if there is one; Barred if the zone is empty."""
    for scale in sorted([str(each) for each in scales]):
        if scale not in zone.order:
            raise NoScale(scale)
    need_points(zone)


def numbers_of(zone, form):
    """The numbers of a form in the order of the zone's names."""
    return tuple([form[name] for name in zone.order])


def form_told(zone, told):
    """The form of the numbers in a pair (numbers, question); None if it is not settled."""
    numbers, question = told
    return None if numbers is None else form_of({name: n for name, n in zip(zone.order, numbers)})


def scale_told(zone, told):
    """The scale of the index in a pair (index, question); None if it is not settled."""
    at, question = told
    return None if at is None else zone.order[at]


# The functions below take views, and parts without uses, of kinds of the zone. They return pairs as the functions of
# anypads.views do.


def single(view, name, n):
    """The form of one scale."""
    return tuple([n if each == name else 0 for each in view.order])


def nothing(view):
    """The form without numbers."""
    return tuple([0 for name in view.order])


def align_at(view, part):
    """The index of the scale that is the alignment of a part."""
    if part.text not in view.aligns:
        view.aligns[part.text] = reckoned_align(view, part)
    return view.aligns[part.text]


def reckoned_align(view, part):
    """The index of the scale that is the alignment of a part, when it is asked for first."""
    if isinstance(part, Byte):
        return view.order.index(BYTE), None
    if isinstance(part, Kind):
        return view.order.index(f"align {part.name}"), None
    if isinstance(part, Row):
        return align_at(view, part.part)
    scales = []
    for name, inner in part.inside:
        scale, question = align_at(view, inner)
        if scale is None:
            return None, question
        scales.append(scale)
    return greatest_of(view, scales)


def size_at(view, part):
    """The form of the size of a part."""
    if part.text not in view.sizes:
        view.sizes[part.text] = reckoned_size(view, part)
    return view.sizes[part.text]


def reckoned_size(view, part):
    """The form of the size of a part, when it is asked for first."""
    if isinstance(part, Byte):
        return single(view, BYTE, 1), None
    if isinstance(part, Kind):
        return single(view, f"size {part.name}", part.times), None
    if isinstance(part, Row):
        return multiple(part.n, size_at(view, part.part))
    if isinstance(part, Record):
        last = len(part) - 1
        end = total(starts_at(view, part)[last], size_at(view, part.fields[last][1]))
        return rounded_for(view, end, part)
    return rounded_for(view, greatest_size(view, part), part)


def rounded_for(view, told, part):
    """What is told, rounded up to the alignment of a part."""
    form, question = told
    if form is None:
        return told
    scale, question = align_at(view, part)
    return (None, question) if scale is None else round_up(view, form, scale)


def total(one, other):
    """The sum of what is told twice."""
    if one[0] is None:
        return one
    return other if other[0] is None else (sum_of(one[0], other[0]), None)


def multiple(n, told):
    """What is told, n times."""
    return told if told[0] is None else (times(n, told[0]), None)


def greatest_size(view, overlay):
    """The form of the greatest size of a member."""
    forms = []
    for name, part in overlay.members:
        form, question = size_at(view, part)
        if form is None:
            return None, question
        forms.append(form)
    at, question = greatest_at(view, forms)
    return (None, question) if at is None else (forms[at], None)


def starts_at(view, record):
    """The list of what is told of the places of a record's fields in it."""
    if record.text not in view.starts:
        place = (nothing(view), None)
        found = [place]
        for k in range(1, len(record)):
            end = total(place, size_at(view, record.fields[k - 1][1]))
            place = rounded_for(view, end, record.fields[k][1])
            found.append(place)
        view.starts[record.text] = found
    return view.starts[record.text]


def place_at(view, hops):
    """The form of the place to which steps lead, as anypads.layout tells them."""
    place = (nothing(view), None)
    for group, at in hops:
        place = total(place, hop_at(view, group, at))
    return place


def hop_at(view, group, at):
    """The form of the place of the field or element with this index in its group."""
    return multiple(at, size_at(view, group.part)) if isinstance(group, Row) else starts_at(view, group)[at]


def packed_at(view, record):
    """The form of the packed size of a record."""
    form = (nothing(view), None)
    for name, part in record.fields:
        form = total(form, size_at(view, part))
    return rounded_for(view, form, record)
