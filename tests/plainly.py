"""Points 18 to 21 once more, word by word and with fractions, to hold the program against."""

import math
from fractions import Fraction

from anypads.forms import Form
from anypads.parts import Byte, Kind, Overlay, Record, Row


def hi(zone, i, j):
    return zone[i, j]


def lo(zone, i, j):
    back = zone[j, i]
    return None if back is None else -back


def rounded(zone, x, t):
    numbers = {i: x[i] for i in x.scales}

    def whole(i):
        high = hi(zone, t, i)
        return high is not None and (high <= 0 or numbers[i] % 2 ** high == 0)

    rest = [i for i in numbers if not whole(i)]
    if not rest:
        return x
    if any(lo(zone, t, i) is None or lo(zone, t, i) < 0 for i in rest):
        return None
    f = sum(Fraction(numbers[i], 2 ** hi(zone, t, i)) for i in rest if hi(zone, t, i) is not None)
    g = sum(Fraction(numbers[i], 2 ** lo(zone, t, i)) for i in rest)
    endless = any(hi(zone, t, i) is None for i in rest)
    first = math.floor(f) + 1 if endless else math.ceil(f)
    last = math.ceil(g)
    if first != last:
        return None
    return Form({i: numbers[i] for i in numbers if i not in rest}) + Form({t: first})


def compared(zone, x, y):
    """Whether they are equal, and whether x is above, not below, below, not above y."""
    m = {i: x[i] - y[i] for i in zone.order}
    for first in zone.order:
        tied = [i for i in zone.order if hi(zone, i, first) is not None and hi(zone, i, first) == lo(zone, i, first)]
        root = min(tied, key=lambda i: (hi(zone, i, first), zone.order.index(i)))
        for i in tied:
            if i != root:
                m[root] += m[i] * 2 ** hi(zone, i, root)
                m[i] = 0
    left = {i: m[i] for i in m if m[i] != 0}
    if not left:
        return True, False, False, False, False
    least, most = [], []
    for r in zone.order:
        low = [term(m[i], lo(zone, i, r), 0) if m[i] > 0 else term(m[i], hi(zone, i, r), None) for i in left]
        high = [term(m[i], hi(zone, i, r), None) if m[i] > 0 else term(m[i], lo(zone, i, r), 0) for i in left]
        least += [] if None in low else [sum(low)]
        most += [] if None in high else [sum(high)]
    return (
        False, any(n > 0 for n in least), any(n >= 0 for n in least), any(n < 0 for n in most), any(n <= 0 for n in most),
    )


def term(number, exponent, endless):
    return endless if exponent is None else number * Fraction(2) ** exponent


def at_most(zone, x, y):
    equal, above, not_below, below, not_above = compared(zone, x, y)
    if equal or below or not_above:
        return True
    return False if above else None


def same(zone, x, y):
    equal, above, not_below, below, not_above = compared(zone, x, y)
    if equal or not_below and not_above:
        return True
    return False if above or below else None


def greatest_form(zone, forms):
    for at, form in enumerate(forms):
        if all(at_most(zone, other, form) for k, other in enumerate(forms) if k != at):
            return at
    return None


def greatest_scale(zone, scales):
    for at, t in enumerate(scales):
        others = [u for k, u in enumerate(scales) if k != at]
        if all(hi(zone, u, t) is not None and hi(zone, u, t) <= 0 for u in others):
            return t
    return None


class Open(Exception):
    """Something that is not settled is needed."""


def need(told):
    if told is None:
        raise Open()
    return told


def align(zone, part):
    if isinstance(part, Byte):
        return "byte"
    if isinstance(part, Kind):
        return f"align {part.name}"
    if isinstance(part, Row):
        return align(zone, part.part)
    pairs = part.members if isinstance(part, Overlay) else part.fields
    return need(greatest_scale(zone, [align(zone, inner) for _, inner in pairs]))


def size(zone, part):
    if isinstance(part, Byte):
        return Form({"byte": 1})
    if isinstance(part, Kind):
        return Form({f"size {part.name}": part.times})
    if isinstance(part, Row):
        return part.n * size(zone, part.part)
    if isinstance(part, Record):
        return need(rounded(zone, end(zone, part, part.fields[-1][0]), align(zone, part)))
    forms = [size(zone, inner) for _, inner in part.members]
    return need(rounded(zone, forms[need(greatest_form(zone, forms))], align(zone, part)))


def place(zone, part, path):
    step, _, rest = path.partition(".")
    here = Form({})
    if isinstance(part, Record):
        names = [name for name, _ in part.fields]
        at = names.index(step)
        if at:
            here = need(rounded(zone, end(zone, part, names[at - 1]), align(zone, part[step])))
    elif isinstance(part, Row) and step != "0":
        here = int(step) * size(zone, part.part)
    return here + place(zone, part[step], rest) if rest else here


def end(zone, part, path):
    return place(zone, part, path) + size(zone, part[path])


def packed(zone, part):
    total = Form({})
    for _, inner in part.fields:
        total = total + size(zone, inner)
    return need(rounded(zone, total, align(zone, part)))


def settled(call, *told):
    try:
        return call(*told)
    except Open:
        return None
