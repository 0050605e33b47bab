"""Forms: sums of numbers times scales."""

from anypads.errors import BadBound, NoScale
from anypads.scales import is_scale
from anypads.words import is_count


class Form:
    """A form: `numbers` is a dict from its scales to their numbers, all of them above 0."""

    def __init__(self, numbers):
        for scale in numbers:
            need_scale(scale)
        for scale in numbers:
            need_count(numbers[scale])
        self.numbers = {scale: numbers[scale] for scale in numbers if numbers[scale] > 0}
        self.scales = tuple(sorted([str(scale) for scale in self.numbers]))

    @staticmethod
    def of(scale, number=1):
        """The form of one scale."""
        # What is no scale may be no key of a dict either.
        need_scale(scale)
        return Form({scale: number})

    def __getitem__(self, at):
        need_scale(at)
        return self.numbers.get(at, 0)

    def __iter__(self):
        raise TypeError("a form is not iterated over: take its scales")

    def __add__(self, other):
        if not isinstance(other, Form):
            return NotImplemented
        one, two = self.numbers, other.numbers
        return form_of({scale: one.get(scale, 0) + two.get(scale, 0) for scale in self.scales + other.scales})

    def __mul__(self, other):
        return multiplied(self, other)

    def __rmul__(self, other):
        return multiplied(self, other)

    def __eq__(self, other):
        return isinstance(other, Form) and self.numbers == other.numbers

    def __bool__(self):
        return bool(self.scales)

    def __abs__(self):
        return sum([self.numbers[scale] for scale in self.scales])

    def __call__(self, machine):
        return sum([self.numbers[scale] << machine[scale] for scale in self.scales])

    def __str__(self):
        texts = [f"{self.numbers[scale]}*{scale}" for scale in self.scales]
        return str(" + ".join(texts) if texts else "0")


def need_scale(value):
    """Raises NoScale if any value is no text of a scale."""
    if not is_scale(value):
        raise NoScale(value)


def need_count(value):
    """Raises BadBound if any value is no whole number from 0 on."""
    if not is_count(value):
        raise BadBound(value)


def form_of(numbers):
    """The form of numbers that need no look: those of scales, from 0 on."""
    form = Form({})
    form.numbers = {scale: numbers[scale] for scale in numbers if numbers[scale] > 0}
    form.scales = tuple(sorted([str(scale) for scale in form.numbers]))
    return form


def multiplied(form, n):
    """The form with all numbers n times as great."""
    need_count(n)
    return form_of({scale: n * form.numbers[scale] for scale in form.scales})
