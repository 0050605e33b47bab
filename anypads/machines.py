"""Machines: exponents for the scales of one to three kinds, and the layout of parts on them."""

from anypads.errors import NoMachine, NoScale, PadError
from anypads.layout import Layout, align_on, hops_to, need_kinds, need_place, place_on, size_on
from anypads.reading import reader_of, take_end, taken_exponents
from anypads.scales import checked_kinds, need_alike, scales_of
from anypads.words import is_whole


class Machine:
    """A machine: `numbers` are its exponents in the order of the scales, `table` has that of the byte, too."""

    MOST = 1000

    def __init__(self, kinds, exponents):
        self.kinds = checked_kinds(kinds)
        self.scales = scales_of(self.kinds)
        self.numbers = checked_numbers(self.kinds, exponents)
        table = {"byte": 0}
        for scale, number in zip(self.scales, self.numbers):
            table[scale] = number
        self.table = table

    @staticmethod
    def is_machine(kinds, exponents):
        """Whether any kinds and exponents make a machine."""
        try:
            Machine(kinds, exponents)
        except PadError:
            return False
        return True

    @classmethod
    def read(cls, text, kinds):
        """The machine of these kinds that is written so."""
        reader = reader_of(text)
        exponents = taken_exponents(reader, kinds, cls.MOST)
        take_end(reader)
        return cls(kinds, exponents)

    def __getitem__(self, at):
        if not isinstance(at, str) or at not in self.table:
            raise NoScale(at)
        return self.table[at]

    def __iter__(self):
        raise TypeError("a machine is not iterated over: take its scales")

    def __eq__(self, other):
        return isinstance(other, Machine) and self.kinds == other.kinds and self.numbers == other.numbers

    def __lt__(self, other):
        if not isinstance(other, Machine):
            return NotImplemented
        need_alike(self, other)
        return rank_of(self.numbers) < rank_of(other.numbers)

    def __le__(self, other):
        if not isinstance(other, Machine):
            return NotImplemented
        need_alike(self, other)
        return rank_of(self.numbers) <= rank_of(other.numbers)

    def __gt__(self, other):
        if not isinstance(other, Machine):
            return NotImplemented
        need_alike(self, other)
        return rank_of(self.numbers) > rank_of(other.numbers)

    def __ge__(self, other):
        if not isinstance(other, Machine):
            return NotImplemented
        need_alike(self, other)
        return rank_of(self.numbers) >= rank_of(other.numbers)

    def __and__(self, other):
        if not isinstance(other, Machine):
            return NotImplemented
        need_alike(self, other)
        return numbered(self.kinds, [min(int(a), int(b)) for a, b in zip(self.numbers, other.numbers)])

    def __or__(self, other):
        if not isinstance(other, Machine):
            return NotImplemented
        need_alike(self, other)
        return numbered(self.kinds, [max(int(a), int(b)) for a, b in zip(self.numbers, other.numbers)])

    def __lshift__(self, other):
        return numbered(self.kinds, [number + other for number in self.numbers])

    def __rshift__(self, other):
        return numbered(self.kinds, [number - other for number in self.numbers])

    def __str__(self):
        sizes = self.numbers[0::2]
        aligns = self.numbers[1::2]
        return ", ".join([f"{kind.name} {s} {a}" for kind, s, a in zip(self.kinds, sizes, aligns)])

    def raised(self, scale, n):
        """The machine with this one exponent n greater."""
        if scale not in self.scales:
            raise NoScale(scale)
        return numbered(self.kinds, [self[each] + (n if each == scale else 0) for each in self.scales])

    def near(self, r):
        """The machine with the same order of its scales, in which no two neighbours differ by more than r."""
        nearer = {0: 0}
        last = 0
        for level in sorted([int(number) for number in self.numbers]):
            nearer[level] = nearer[last] + min(int(level - last), int(r))
            last = level
        return numbered(self.kinds, [nearer[number] for number in self.numbers])

    def size(self, part):
        """The size of a part."""
        need_kinds(part, self.kinds)
        return size_on(Layout(self), part)

    def align(self, part):
        """The alignment of a part."""
        need_kinds(part, self.kinds)
        return align_on(Layout(self), part)

    def place(self, part, path):
        """The place of a path in a part."""
        need_place(part, self.kinds, path)
        return place_on(Layout(self), hops_to(part, path))

    def end(self, part, path):
        """The end of a path in a part."""
        goal = need_place(part, self.kinds, path)
        laid = Layout(self)
        return place_on(laid, hops_to(part, path)) + size_on(laid, goal)


def checked_numbers(kinds, exponents):
    """The tuple of the exponents in the order of the scales, if these exponents, any value, make a machine."""
    names = [kind.name for kind in kinds]
    if not isinstance(exponents, dict) or len(exponents) != len(names):
        raise NoMachine(None)
    if not all([name in exponents for name in names]):
        raise NoMachine(None)
    numbers = []
    for name in names:
        numbers.extend(checked_pair(name, exponents[name]))
    return tuple(numbers)


def checked_pair(name, pair):
    """The pair of the exponents of one kind, if any value is such a pair."""
    if not isinstance(pair, tuple) or len(pair) != 2 or not is_whole(pair[0], 0, Machine.MOST):
        raise NoMachine(f"size {name}")
    if not is_whole(pair[1], 0, pair[0]):
        raise NoMachine(f"align {name}")
    return pair


def numbered(kinds, numbers):
    """The machine with these exponents, in the order of the scales."""
    return Machine(kinds, {kind.name: (s, a) for kind, s, a in zip(kinds, numbers[0::2], numbers[1::2])})


def rank_of(numbers):
    """By what machines with these exponents are ordered: the greatest one, then all of them."""
    return max([int(number) for number in numbers]), numbers
