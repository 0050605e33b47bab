"""What a zone tells of its scales, made ready for reckoning: points 17 to 20, and what to ask where they are stuck.

A form is here a tuple of its numbers in the order of the zone's names. What is settled is returned as a pair (result,
None); what is not as (None, question): a question is a tuple (i, j, c) of the indexes of two names and a number such
that in some points of the zone the number of i less that of j is at most c, in others it is greater.
"""

FEW = 4


class View:
    """A zone that is not empty, with what has been reckoned in it.

    `high[i][j]` is the greatest difference of the names i and j, or None. `ties` has a tuple (name, first, apart) for
    each name that is tied to an earlier one of point 19. The dicts are filled by anypads.settle and anypads.plans.
    """

    def __init__(self, zone):
        self.zone = zone
        self.order = zone.order
        self.high = [[zone.far.get((i, j)) for j in zone.order] for i in zone.order]
        self.ties = ties_in(self.high)
        self.aligns = {}
        self.sizes = {}
        self.starts = {}
        self.slots = {}
        self.rows = {}


def ties_in(high):
    """The tuples (name, first, apart) for the names that are tied to another one with the least exponent."""
    ties = []
    for at, row in enumerate(high):
        first, most = at, -1
        for other, apart in enumerate(row):
            if apart is not None and apart > most and high[other][at] == -apart:
                first, most = other, apart
        if first != at:
            ties.append((at, first, most))
    return ties


def sum_of(one, other):
    """The sum of two forms."""
    return tuple([n + m for n, m in zip(one, other)])


def times(n, form):
    """The form n times."""
    return tuple([n * number for number in form])


def added(numbers, n, form):
    """The numbers with n times those of a form."""
    return tuple([m + n * number for m, number in zip(numbers, form)])


def less_by(one, other):
    """The numbers of the one form less those of the other one."""
    return tuple([n - m for n, m in zip(one, other)])


def round_up(view, form, scale):
    """The form rounded up to a scale."""
    kept = list(form)
    low = []
    for at, n in enumerate(form):
        if n and not is_whole_part(view, n, scale, at):
            low.append((n, at))
            kept[at] = 0
    if not low:
        return form, None
    for n, at in low:
        back = view.high[at][scale]
        if back is None or back > 0:
            # One side makes this scale whole, the other one low.
            return None, (scale, at, halvings(n))
    count = low_count(view, low, scale)
    if count is None:
        return None, narrower(view, low, scale)
    kept[scale] = kept[scale] + count
    return tuple(kept), None


def is_whole_part(view, n, scale, at):
    """Whether n of one scale surely are a multiple of the scale to which is rounded."""
    high = view.high[scale][at]
    return high is not None and (high <= 0 or n & ((1 << high) - 1) == 0)


def halvings(n):
    """How often a number above 0 can be halved."""
    return (n & -n).bit_length() - 1


def low_count(view, low, scale):
    """How many of the scale the numbers of low scales make together, rounded up; None if that is not settled."""
    most = [(n, -view.high[at][scale]) for n, at in low]
    least = [(n, view.high[scale][at]) for n, at in low if view.high[scale][at] is not None]
    above, bottom = fraction(least)
    # An endless difference leaves less than any part of 1, but more than nothing.
    first = -(-above // bottom) if len(least) == len(low) else above // bottom + 1
    above, bottom = fraction(most)
    return first if first == -(-above // bottom) else None


def fraction(pairs):
    """The sum of n / 2 ** exponent over the pairs (n, exponent), exponents from 0 on: what is above and below."""
    deepest = max([int(exponent) for n, exponent in pairs], default=0)
    return sum([n << (deepest - exponent) for n, exponent in pairs]), 1 << deepest


def narrower(view, low, scale):
    """A question about the low scale that leaves the count most open."""
    deepest = max([int(-view.high[at][scale]) for n, at in low])
    widest, found = -1, None
    for n, at in low:
        apart, high = -view.high[at][scale], view.high[scale][at]
        # Of an endless difference nothing is left but what is too small to count.
        least = 0 if high is None else (n << deepest) >> high
        width = (n << (deepest - apart)) - least
        if apart != high and width > widest:
            widest, found = width, (n, at)
    n, at = found
    apart, high = -view.high[at][scale], view.high[scale][at]
    # From this difference on the scale alone counts as one.
    top = (n - 1).bit_length()
    top = top if high is None else min(int(top), int(high))
    # Many of the differences below are halved, lest the questions be nested deep.
    return scale, at, (apart + top - 1) // 2 if top - apart > FEW else max(int(apart), int(top) - 1)


def numbers_left(view, numbers):
    """The pairs (name, number) of the numbers that are not 0 when tied ones are put together."""
    joined = list(numbers)
    for at, first, apart in view.ties:
        if joined[at]:
            joined[first] = joined[first] + (joined[at] << apart)
            joined[at] = 0
    return [(at, m) for at, m in enumerate(joined) if m]


def turned_over(left):
    """The numbers left of the other form less the one."""
    return [(at, -m) for at, m in left]


def least_sign(view, left):
    """1 if the sum of the numbers left is told to be above 0, 0 if it is told to be not below it, otherwise -1."""
    if all([m > 0 for at, m in left]):
        return 1 if left else 0
    if all([m < 0 for at, m in left]):
        return -1
    if len(left) == 2:
        # The difference of these two is never told better beside a third name.
        return sign_beside(view.high, left, left[1][0])
    found = -1
    for beside in range(len(view.high)):
        found = max(int(found), int(sign_beside(view.high, left, beside)))
        if found == 1:
            return 1
    return found


def sign_beside(high, left, beside):
    """The sign of the least sum of the numbers left, in parts of the scale `beside`; -1 if there is none."""
    parts = []
    for at, m in left:
        if m < 0:
            if high[at][beside] is None:
                return -1
            parts.append((m, high[at][beside]))
        elif high[beside][at] is not None:
            parts.append((m, -high[beside][at]))
    bottom = min([int(apart) for m, apart in parts])
    total = sum([m << (apart - bottom) for m, apart in parts])
    return 1 if total > 0 else (0 if total == 0 else -1)


def is_at_most(view, numbers):
    """Whether a form is at most another one; the numbers are those of the one less those of the other."""
    left = numbers_left(view, numbers)
    if least_sign(view, turned_over(left)) >= 0:
        return True, None
    return (False, None) if least_sign(view, left) > 0 else (None, parting(view, left))


def is_same(view, numbers):
    """Whether a form is the same as another one; the numbers are those of the one less those of the other."""
    left = numbers_left(view, numbers)
    above, below = least_sign(view, left), least_sign(view, turned_over(left))
    if above > 0 or below > 0:
        return False, None
    return (True, None) if above == 0 and below == 0 else (None, parting(view, left))


def greatest_at(view, forms):
    """The index of the first form that every other one is at most."""
    asked = None
    for at, form in enumerate(forms):
        found = [is_at_most(view, less_by(other, form)) for k, other in enumerate(forms) if k != at]
        if all([answer is True for answer, question in found]):
            return at, None
        if asked is None and all([answer is not False for answer, question in found]):
            asked = [question for answer, question in found if answer is None][0]
    return None, asked


def greatest_of(view, scales):
    """The first scale that no other one is above."""
    asked = None
    for scale in scales:
        above = [other for other in scales if view.high[other][scale] is None or view.high[other][scale] > 0]
        if not above:
            return scale, None
        if asked is None and all([is_open(view, other, scale, 0) for other in above]):
            asked = (above[0], scale, 0)
    return None, asked


def is_open(view, i, j, c):
    """Whether the number of i less that of j is at most c in some points, and greater in others."""
    back, high = view.high[j][i], view.high[i][j]
    return (back is None or -back <= c) and (high is None or c < high)


# Where a comparison is stuck.


def parting(view, left):
    """A question that helps to tell the sign of the sum of the numbers left; two of them at least have unlike signs."""
    leading = [pair for pair in left if not is_dominated(view, left, pair)]
    for one in leading:
        for other in leading:
            if one[1] > 0 > other[1]:
                question = weighing(view, one, other)
                if question is not None:
                    return question
    for k, one in enumerate(left):
        for other in left[k + 1:]:
            question = weighing(view, one, other)
            if question is not None:
                return question
    return wider_apart(view, left)


def is_dominated(view, left, pair):
    """Whether another number of the same sign surely counts as much as this one."""
    return any([other != pair and (other[1] > 0) == (pair[1] > 0) and outweighs(view, other, pair) for other in left])


def outweighs(view, one, other):
    """Whether the number of one scale surely counts as much as that of another one, but for their signs."""
    back = view.high[other[0]][one[0]]
    return back is not None and abs(one[1]) << max(0, int(-back)) >= abs(other[1]) << max(0, int(back))


def weighing(view, one, other):
    """A question that tells which of two numbers counts more, None if that is told."""
    balance = floor_of_ratio(abs(other[1]), abs(one[1]))
    exact = abs(other[1]) << max(0, int(-balance)) == abs(one[1]) << max(0, int(balance))
    for c in (balance, balance - 1) if exact else (balance,):
        if is_open(view, one[0], other[0], c):
            return one[0], other[0], c
    return None


def floor_of_ratio(above, below):
    """The greatest c such that 2 ** c is at most above / below."""
    c = above.bit_length() - below.bit_length()
    return c if below << max(0, int(c)) <= above << max(0, int(-c)) else c - 1


def wider_apart(view, left):
    """A question that sets the greatest of the numbers left apart from one of those of the other sign."""
    top = [one for one in left if all([outweighs(view, one, other) for other in left if other != one])][0]
    found, least = None, 0
    for at, m in left:
        apart = 0 if (m > 0) == (top[1] > 0) else -view.high[at][top[0]]
        score = apart - abs(m).bit_length()
        if (m > 0) != (top[1] > 0) and (found is None or score < least):
            found, least = (top[0], at, apart), score
    return found
