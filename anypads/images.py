"""Images: the bytes of a part on a machine, made of values, read and changed."""

from anypads.errors import BadValue, TooLarge
from anypads.layout import Layout, hops_to, need_place, place_on, size_on, starts_on
from anypads.parts import Byte, Kind, Record, Row
from anypads.words import is_whole

MOST_BYTES = 4096


def image(machine, part, value):
    """The image of a part that has this value."""
    need_small(machine, part)
    return bytes_of(Layout(machine), part, value, "")


def number_at(machine, part, shown, path):
    """The number that stands at a path in an image."""
    first, behind = number_span(machine, part, shown, path)
    return sum([byte << (8 * k) for k, byte in enumerate(shown[first:behind])])


def patched(machine, part, shown, path, number):
    """A new image with another number at a path."""
    first, behind = number_span(machine, part, shown, path)
    if not is_number_of(number, behind - first):
        raise BadValue(path)
    return shown[:first] + number_bytes(number, behind - first) + shown[behind:]


def need_small(machine, part):
    """The size of a part; raises an error if the part has none on this machine, or if its image is too large."""
    size = machine.size(part)
    if size > MOST_BYTES:
        raise TooLarge("image", MOST_BYTES)
    return size


def number_span(machine, part, shown, path):
    """The place and the end of the number at a path in an image; raises what number_at raises."""
    size = need_small(machine, part)
    goal = need_place(part, machine.kinds, path)
    if not isinstance(goal, (Kind, Byte)):
        raise BadValue(path)
    if not is_image(shown, size):
        raise BadValue("")
    laid = Layout(machine)
    place = place_on(laid, hops_to(part, path))
    return place, place + size_on(laid, goal)


def is_image(value, size):
    """Whether any value is a list of so many bytes."""
    return isinstance(value, list) and len(value) == size and all([is_whole(byte, 0, 255) for byte in value])


def is_number_of(value, size):
    """Whether any value is a number that so many bytes can hold."""
    return is_whole(value, 0, (1 << (8 * size)) - 1)


def number_bytes(number, size):
    """The bytes of a number, the lowest one first."""
    return [(number >> (8 * k)) & 255 for k in range(size)]


def bytes_of(laid, part, value, path):
    """The bytes of a part at a path, with this value; raises BadValue for the first part with a wrong value."""
    if not fits(laid, part, value):
        raise BadValue(path)
    if isinstance(part, Row):
        return row_bytes(laid, part, value, path)
    if isinstance(part, Record):
        return record_bytes(laid, part, value, path)
    if isinstance(part, (Kind, Byte)):
        return number_bytes(value, size_on(laid, part))
    member, worth = value
    shown = bytes_of(laid, part[member], worth, joined(path, member))
    return filled_up(shown, size_on(laid, part))


def fits(laid, part, value):
    """Whether any value is of the kind that belongs to a part; what stands within it is not looked at."""
    if isinstance(part, Row):
        return isinstance(value, list) and len(value) == part.n
    if isinstance(part, Record):
        if not isinstance(value, dict) or len(value) != len(part):
            return False
        return all([name in value for name, inner in part.fields])
    if isinstance(part, (Kind, Byte)):
        return is_number_of(value, size_on(laid, part))
    if not isinstance(value, tuple) or len(value) != 2:
        return False
    return value[0] in [name for name, inner in part.members]


def row_bytes(laid, row, values, path):
    """The bytes of a row."""
    shown = []
    for k, value in enumerate(values):
        shown.extend(bytes_of(laid, row.part, value, joined(path, str(k))))
    return shown


def record_bytes(laid, record, values, path):
    """The bytes of a record."""
    shown = []
    for (name, part), start in zip(record.fields, starts_on(laid, record)):
        shown = filled_up(shown, start)
        shown.extend(bytes_of(laid, part, values[name], joined(path, name)))
    return filled_up(shown, size_on(laid, record))


def filled_up(shown, size):
    """The bytes, with zeros behind them up to this size."""
    return shown + [0] * (size - len(shown))


def joined(path, step):
    """The path with one step more; the path of the whole is empty."""
    return f"{path}.{step}" if path else step
