"""Points 18 to 20 in a zone that is not empty and has all the scales: what is settled of forms and scales."""

from anypads.forms import form_of


def highest(zone, i, j):
    """The greatest difference of two exponents, None if it is endless."""
    return zone.far.get((i, j))


def lowest(zone, i, j):
    """The least difference of two exponents, None if it is endless."""
    back = zone.far.get((j, i))
    return None if back is None else -back


def round_up(zone, form, scale):
    """The form rounded up to a scale, or None."""
    kept = {}
    low = []
    for each in form.scales:
        number = form.numbers[each]
        if is_whole_part(zone, number, scale, each):
            kept[each] = number
        else:
            low.append((number, each))
    if not low:
        return form
    count = low_count(zone, low, scale)
    if count is None:
        return None
    kept[scale] = kept.get(scale, 0) + count
    return form_of(kept)


def is_whole_part(zone, number, scale, each):
    """Whether so many of one scale surely are a multiple of the scale to which is rounded."""
    high = highest(zone, scale, each)
    return high is not None and (high <= 0 or number & ((1 << high) - 1) == 0)


def low_count(zone, low, scale):
    """How many of the scale the numbers of low scales make together, rounded up; or None."""
    least = []
    most = []
    for number, each in low:
        apart = lowest(zone, scale, each)
        if apart is None or apart < 0:
            return None
        most.append((number, apart))
        if highest(zone, scale, each) is not None:
            least.append((number, highest(zone, scale, each)))
    above, bottom = fraction(least)
    # An endless difference leaves less than any part of 1, but more than nothing.
    first = -(-above // bottom) if len(least) == len(low) else above // bottom + 1
    above, bottom = fraction(most)
    return first if first == -(-above // bottom) else None


def fraction(pairs):
    """The sum of n / 2 ** exponent over the pairs (n, exponent), exponents from 0 on: what is above and below."""
    deepest = max([int(exponent) for n, exponent in pairs], default=0)
    return sum([n << (deepest - exponent) for n, exponent in pairs]), 1 << deepest


def is_at_most(zone, one, other):
    """Whether the one form is at most the other one; None if that is not settled."""
    if least_sign(zone, other, one) >= 0:
        return True
    return False if least_sign(zone, one, other) > 0 else None


def is_same(zone, one, other):
    """Whether two forms are the same; None if that is not settled."""
    above = least_sign(zone, one, other)
    below = least_sign(zone, other, one)
    if above > 0 or below > 0:
        return False
    return True if above == 0 and below == 0 else None


def least_sign(zone, one, other):
    """1 if the one form is told to be above the other one, 0 if it is told to be not below it, otherwise -1.

    The greatest value of the other less the one is minus the least value of the one less the other, so that this
    tells with exchanged forms what is below and not above.
    """
    numbers = tied(zone, one, other)
    return max([int(least_sign_beside(zone, numbers, name)) for name in zone.order])


def tied(zone, one, other):
    """The numbers of the one form less those of the other, without zeros, those of tied scales put together."""
    numbers = {scale: one[scale] - other[scale] for scale in one.scales + other.scales}
    joined = {}
    for scale in numbers:
        first = first_tied(zone, scale)
        joined[first] = joined.get(first, 0) + (numbers[scale] << highest(zone, scale, first))
    return {scale: joined[scale] for scale in joined if joined[scale] != 0}


def first_tied(zone, scale):
    """The name with the least exponent of those that are tied to a scale, the first one of several."""
    first, most = scale, -1
    for name in zone.order:
        apart = highest(zone, scale, name)
        if apart is not None and apart == lowest(zone, scale, name) and apart > most:
            first, most = name, apart
    return first


def least_sign_beside(zone, numbers, name):
    """The sign of the least sum of the numbers times their scales, beside the scale `name`; -1 if there is none."""
    parts = []
    for scale in numbers:
        number = numbers[scale]
        apart = lowest(zone, scale, name) if number > 0 else highest(zone, scale, name)
        if apart is not None:
            parts.append((number, apart))
        elif number < 0:
            return -1
    bottom = min([int(apart) for number, apart in parts], default=0)
    total = sum([number << (apart - bottom) for number, apart in parts])
    return 1 if total > 0 else (0 if total == 0 else -1)


def greatest_at(zone, forms):
    """The index of the first form that every other one is at most; or None."""
    for at, form in enumerate(forms):
        if all([k == at or is_at_most(zone, other, form) is True for k, other in enumerate(forms)]):
            return at
    return None


def greatest_of(zone, scales):
    """The first scale that no other one is above; or None."""
    for scale in scales:
        apart = [highest(zone, other, scale) for other in scales]
        if all([most is not None and most <= 0 for most in apart]):
            return scale
    return None
