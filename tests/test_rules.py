"""Points 18 to 20: rounding, comparing and the greatest, by hand and against the words of the document."""

import random
import unittest

from anypads.forms import Form
from anypads.parts import Kind
from anypads.settle import form_at_most, form_same, greatest_form, greatest_scale, rounded
from anypads.zones import Zone
from tests import plainly
from tests.drawn import KINDS, drawn_form, drawn_zone, exact_zone, machines_in
from tests.values import raised_by

A, B = Kind("a"), Kind("b")
FREE = Zone(A, B)
NOWHERE = FREE.within("byte", "byte", -1)


def exactly(zone, i, j, c):
    return zone.within(i, j, c).within(j, i, -c)


def forms(**numbers):
    return Form({name.replace("_", " "): number for name, number in numbers.items()})


class Rounding(unittest.TestCase):
    def look(self, zone, x, t, expected):
        found = rounded(zone, x, t)
        self.assertEqual(found, expected, f"{x} to {t} is {found}")

    def test_nothing_and_the_scale_itself(self):
        for t in FREE.order:
            self.look(FREE, Form({}), t, Form({}))
            self.look(FREE, Form.of(t, 3), t, Form.of(t, 3))
            self.look(FREE, forms(size_a=3, align_b=7, byte=1), "byte", forms(size_a=3, align_b=7, byte=1))

    def test_whole_because_the_scale_is_never_greater(self):
        self.look(FREE, forms(size_a=3), "align a", forms(size_a=3))
        self.look(FREE.within("align b", "size a", -2), forms(size_a=1), "align b", forms(size_a=1))
        self.look(FREE, forms(align_a=3), "size a", None)

    def test_whole_because_the_number_is_divided(self):
        zone = FREE.within("align a", "byte", 3)
        self.look(zone, forms(byte=8), "align a", forms(byte=8))
        self.look(zone, forms(byte=24, size_b=8), "align a", forms(byte=24, size_b=8))
        self.look(zone, forms(byte=12), "align a", None)
        self.look(zone.within("align a", "size b", 2), forms(byte=16, size_b=4), "align a", forms(byte=16, size_b=4))

    def test_low_with_like_counts(self):
        # The scale is 4 or 8 bytes: 2 bytes are below one, 9 bytes are 2 of 8 or 3 of 4.
        zone = FREE.within("byte", "align a", -2).within("align a", "byte", 3)
        self.look(zone, forms(byte=2), "align a", forms(align_a=1))
        self.look(zone, forms(byte=4), "align a", forms(align_a=1))
        self.look(zone, forms(byte=5), "align a", None)
        self.look(zone, forms(byte=9), "align a", None)
        self.look(exactly(FREE, "align a", "byte", 2), forms(byte=9), "align a", forms(align_a=3))

    def test_low_with_an_endless_difference(self):
        zone = FREE.within("byte", "align a", -2)
        self.look(zone, forms(byte=1), "align a", forms(align_a=1))
        self.look(zone, forms(byte=4), "align a", forms(align_a=1))
        self.look(zone, forms(byte=5), "align a", None)
        self.look(FREE, forms(byte=1), "align a", forms(align_a=1))
        self.look(FREE, forms(byte=2), "align a", None)

    def test_a_fraction_and_none_beside_an_endless_difference(self):
        # align b is just 4 bytes less 2 of align a: sums of both.
        zone = exactly(FREE, "align b", "align a", 1).within("byte", "align a", -1)
        # F is 2 / 2 = 1 without a fraction: one more; G is 1 + 1 / 4.
        self.look(zone, forms(align_a=2, byte=1), "align b", forms(align_a=2, align_b=1))
        self.look(zone, forms(align_a=1, byte=1), "align b", forms(align_b=1))
        self.look(zone, forms(align_a=1, byte=2), "align b", forms(align_b=1))
        self.look(zone, forms(align_a=1, byte=3), "align b", None)
        self.look(zone, forms(align_a=3, byte=1), "align b", forms(align_b=2))
        self.look(zone, forms(align_a=3, byte=2), "align b", forms(align_b=2))
        self.look(zone, forms(align_a=3, byte=3), "align b", None)

    def test_low_numbers_without_a_fraction_together(self):
        # Neither is divided alone: 2 of 4 and 2 of 4 are one whole, with none left.
        zone = exactly(exactly(FREE, "align b", "align a", 2), "align a", "byte", 0)
        self.look(zone, forms(align_a=2, byte=2), "align b", forms(align_b=1))
        self.look(zone, forms(align_a=2, byte=3), "align b", forms(align_b=2))
        # Beside an endless difference they are one whole and something more.
        zone = exactly(Zone(A, B, Kind("c")), "align b", "align a", 2)
        zone = exactly(zone, "align a", "size a", 0).within("byte", "align c", -1).within("align c", "align b", -3)
        self.look(zone, forms(align_a=2, size_a=2, align_c=1), "align b", forms(align_b=2))
        self.look(zone, forms(align_a=2, size_a=2, align_c=8), "align b", forms(align_b=2))
        self.look(zone, forms(align_a=2, size_a=2, align_c=9), "align b", None)

    def test_whole_and_low_side_by_side(self):
        zone = FREE.within("byte", "align b", -3).within("align b", "size a", 0)
        self.look(zone, forms(size_a=5, byte=8, align_b=2), "align b", forms(size_a=5, align_b=3))
        self.look(zone, forms(size_a=5, byte=9, align_b=2), "align b", None)

    def test_neither_whole_nor_low(self):
        self.look(FREE, forms(size_a=1), "align b", None)
        self.look(FREE.within("size a", "align b", 1), forms(size_a=1), "align b", None)
        self.look(FREE.within("size a", "align b", 0), forms(size_a=1), "align b", forms(align_b=1))
        self.look(FREE.within("size a", "align b", 0), forms(size_a=1, byte=1, align_a=1), "align b", None)

    def test_a_count_that_could_be_seen_is_not_told(self):
        # By 2 * size a with size a at most align b, and 1 byte: it is 1 or 2, or 3; not settled by the rule.
        zone = FREE.within("size a", "align b", 0)
        self.look(zone, forms(size_a=2), "align b", None)

    def test_forms_stay_as_they_are(self):
        x = forms(byte=2)
        rounded(FREE.within("byte", "align a", -2), x, "align a")
        self.assertEqual(x, forms(byte=2))

    def test_errors(self):
        for zone in (FREE, NOWHERE):
            self.assertEqual(raised_by(rounded, zone, forms(size_d=1, size_c=1), "align e"), ("NoScale", "align e"))
            self.assertEqual(raised_by(rounded, zone, forms(size_d=1, size_c=1), "size a"), ("NoScale", "size c"))
            self.assertEqual(raised_by(rounded, zone, forms(byte=1), "size e"), ("NoScale", "size e"))
        self.assertEqual(raised_by(rounded, NOWHERE, Form({}), "byte"), ("Barred",))
        self.assertEqual(rounded(zone=FREE, form=forms(size_c=0), scale="byte"), Form({}))

    def test_against_the_words(self):
        rng = random.Random(1)
        told = 0
        for _ in range(1500):
            zone = drawn_zone(rng, KINDS[:rng.randint(1, 3)])
            x, t = drawn_form(rng, zone), rng.choice(zone.order)
            expected = plainly.rounded(zone, x, t)
            self.assertEqual(rounded(zone, x, t), expected, (str(zone), str(x), t))
            told += expected is not None and expected != x
        self.assertGreater(told, 60)

    def test_on_machines(self):
        rng = random.Random(2)
        for _ in range(150):
            zone = drawn_zone(rng, KINDS[:2], 2)
            for _ in range(4):
                x, t = drawn_form(rng, zone), rng.choice(zone.order)
                found = rounded(zone, x, t)
                if found is not None:
                    for machine in machines_in(zone, 4):
                        scale = 2 ** machine[t]
                        self.assertEqual(found(machine), (x(machine) + scale - 1) // scale * scale)


class Comparing(unittest.TestCase):
    def look(self, zone, x, y, less, alike):
        """`less` is whether x is at most y and y at most x; `alike` is whether they are the same."""
        self.assertEqual((form_at_most(zone, x, y), form_at_most(zone, y, x)), less)
        self.assertEqual([form_same(zone, x, y), form_same(zone, y, x)], [alike, alike])

    def test_equal_forms(self):
        self.look(FREE, forms(size_a=3, byte=1), forms(size_a=3, byte=1), (True, True), True)
        self.look(FREE, Form({}), forms(size_b=0), (True, True), True)

    def test_tied_scales_become_equal(self):
        zone = exactly(FREE, "size a", "align b", 2)
        self.look(zone, forms(size_a=1), forms(align_b=4), (True, True), True)
        self.look(zone, forms(size_a=3, align_b=1), forms(align_b=13), (True, True), True)
        self.look(zone, forms(size_a=1, byte=1), forms(align_b=4), (False, True), False)
        zone = exactly(FREE, "size a", "byte", 3)
        self.look(zone, forms(size_a=2), forms(byte=16), (True, True), True)
        self.look(exactly(FREE, "size a", "align a", 0), forms(size_a=2), forms(align_a=2), (True, True), True)

    def test_tied_scales_beside_another_one(self):
        # 4 * align a less 2 * size a is nothing where they are tied, whatever size b is.
        zone = exactly(FREE, "size a", "align a", 1)
        self.look(zone, forms(align_a=4, size_b=1), forms(size_a=2, byte=1), (None, True), None)
        self.look(zone.within("byte", "size b", -1), forms(align_a=4, size_b=1), forms(size_a=2, byte=1), (False, True), False)

    def test_a_tied_scale_without_a_number(self):
        # byte itself has the number 0, and takes that of size a.
        zone = exactly(FREE, "size a", "byte", 2).within("byte", "size b", -2)
        self.look(zone, forms(size_a=1), forms(size_b=1), (True, None), None)
        self.look(zone.within("byte", "size b", -3), forms(size_a=1), forms(size_b=1), (True, False), False)

    def test_above_and_below(self):
        zone = FREE.within("size a", "size b", -1)
        self.look(zone, forms(size_b=1), forms(size_a=1), (False, True), False)
        self.look(zone, forms(size_b=3), forms(size_a=5), (False, True), False)
        self.look(FREE, forms(byte=1), Form({}), (False, True), False)

    def test_not_below_and_not_above(self):
        self.look(FREE, forms(size_a=1), forms(align_a=1), (None, True), None)
        self.look(FREE.within("size a", "size b", -1), forms(size_b=1), forms(size_a=2), (None, True), None)
        self.look(FREE, forms(size_a=1), forms(byte=1), (None, True), None)

    def test_endless_differences(self):
        self.look(FREE, forms(size_a=1), forms(size_b=1), (None, None), None)
        self.look(FREE, forms(size_a=1, size_b=1), forms(size_b=1), (False, True), False)
        # No least where a number below 0 has an endless difference; it counts as 0 where the number is above 0.
        self.look(FREE.within("size b", "align a", -3), forms(align_a=1, size_a=1), forms(size_b=8), (False, True), False)
        self.look(FREE.within("size b", "align a", -3), forms(align_a=1), forms(size_b=8, align_b=1), (None, None), None)

    def test_beside_a_scale_that_is_not_left(self):
        # size a <= align b <= size b: beside align b the one is at most 1 and the other one at least 1.
        zone = FREE.within("size a", "align b", 0)
        self.look(zone, forms(size_a=1), forms(size_b=1), (True, None), None)
        zone = FREE.within("size a", "align b", 0).within("align b", "size b", -1)
        self.look(zone, forms(size_a=1, align_a=1), forms(size_b=1), (True, None), None)

    def test_what_could_be_seen_otherwise_is_not_told(self):
        # The one is greater by the byte, but beside no scale: beside a and b it counts as nothing, and a has no end.
        zone = FREE.within("size a", "size b", -1)
        self.look(zone, forms(size_b=1, byte=1), forms(size_a=2), (None, True), None)
        # Each pair alone is told, the sums are not.
        self.look(FREE, forms(align_a=2), forms(size_a=2), (True, None), None)
        self.look(FREE, forms(align_a=1, size_b=1), forms(size_a=1, align_b=1), (None, None), None)
        self.look(FREE, forms(align_a=1, align_b=1), forms(size_a=1, size_b=1), (None, None), None)

    def test_errors(self):
        for call in (form_at_most, form_same):
            for zone in (FREE, NOWHERE):
                self.assertEqual(raised_by(call, zone, forms(size_e=1), forms(size_d=1, size_a=1)), ("NoScale", "size d"))
                self.assertEqual(raised_by(call, zone, forms(size_e=1), forms(size_f=1)), ("NoScale", "size e"))
            self.assertEqual(raised_by(call, NOWHERE, Form({}), Form({})), ("Barred",))
            self.assertIs(call(zone=FREE, one=Form({}), other=forms(size_e=0)), True)

    def test_against_the_words(self):
        rng = random.Random(3)
        found = []
        for _ in range(2500):
            zone = drawn_zone(rng, KINDS[:rng.randint(1, 3)])
            x, y = drawn_form(rng, zone), drawn_form(rng, zone)
            if rng.random() < 0.2:
                zone = exact_zone(rng, zone.kinds, 4, 5)
            told = [form_at_most(zone, x, y), form_same(zone, x, y)]
            self.assertEqual(told, [plainly.at_most(zone, x, y), plainly.same(zone, x, y)], (str(zone), str(x), str(y)))
            found += told
        for answer in (True, False, None):
            self.assertGreater(found.count(answer), 200)

    def test_on_machines(self):
        rng = random.Random(4)
        for _ in range(200):
            zone = drawn_zone(rng, KINDS[:2], 2)
            x, y = drawn_form(rng, zone), drawn_form(rng, zone)
            less, alike = form_at_most(zone, x, y), form_same(zone, x, y)
            for machine in machines_in(zone, 4):
                self.assertIn(less, (None, x(machine) <= y(machine)))
                self.assertIn(alike, (None, x(machine) == y(machine)))


class Greatest(unittest.TestCase):
    def test_forms(self):
        self.assertEqual(greatest_form(FREE, [forms(size_a=1)]), 0)
        self.assertEqual(greatest_form(FREE, [forms(byte=1), forms(size_a=1), forms(align_a=1)]), 1)
        self.assertEqual(greatest_form(FREE, (forms(byte=3), Form({}), forms(byte=3))), 0)
        self.assertIsNone(greatest_form(FREE, [forms(size_a=1), forms(size_b=1)]))
        self.assertEqual(greatest_form(FREE, [forms(size_a=1), forms(size_b=1), forms(size_a=1, size_b=1)]), 2)
        self.assertIsNone(greatest_form(FREE, [forms(align_a=2), forms(size_a=1)]))

    def test_scales(self):
        self.assertEqual(greatest_scale(FREE, ["size b"]), "size b")
        self.assertEqual(greatest_scale(FREE, ("byte", "align a", "size a")), "size a")
        self.assertIsNone(greatest_scale(FREE, ["align a", "size a", "align b"]))
        zone = exactly(FREE, "align a", "align b", 0)
        self.assertEqual(greatest_scale(zone, ["byte", "align b", "align a"]), "align b")
        self.assertEqual(greatest_scale(zone, ["byte", "align a", "align b", "align a"]), "align a")
        self.assertEqual(greatest_scale(FREE.within("align a", "align b", -1), ["align a", "align b"]), "align b")
        self.assertIsNone(greatest_scale(FREE.within("align a", "align b", 1), ["align a", "align b"]))

    def test_errors(self):
        for zone in (FREE, NOWHERE):
            told = [forms(byte=1), forms(size_f=1), forms(size_e=1)]
            self.assertEqual(raised_by(greatest_form, zone, told), ("NoScale", "size e"))
            self.assertEqual(raised_by(greatest_scale, zone, ["size a", "size f", "align f"]), ("NoScale", "align f"))
        self.assertEqual(raised_by(greatest_form, NOWHERE, [Form({})]), ("Barred",))
        self.assertEqual(raised_by(greatest_scale, NOWHERE, ["byte"]), ("Barred",))
        self.assertEqual(greatest_form(zone=FREE, forms=[Form({})]), 0)
        self.assertEqual(greatest_scale(zone=FREE, scales=["byte"]), "byte")

    def test_lists_stay_as_they_are(self):
        told, scales = [forms(size_a=1), forms(byte=1)], ["size a", "byte"]
        greatest_form(FREE, told)
        greatest_scale(FREE, scales)
        self.assertEqual([told, scales], [[forms(size_a=1), forms(byte=1)], ["size a", "byte"]])

    def test_against_the_words(self):
        rng = random.Random(5)
        for _ in range(600):
            zone = drawn_zone(rng, KINDS[:rng.randint(1, 3)])
            told = [drawn_form(rng, zone, 4) for _ in range(rng.randint(1, 4))]
            self.assertEqual(greatest_form(zone, told), plainly.greatest_form(zone, told))
            scales = [rng.choice(zone.order) for _ in range(rng.randint(1, 4))]
            self.assertEqual(greatest_scale(zone, scales), plainly.greatest_scale(zone, scales))


if __name__ == "__main__":
    unittest.main()
