"""Point 9: images, the numbers in them, and what is refused."""

import copy
import random
import unittest

from anypads.images import image, number_at, patched
from anypads.machines import Machine
from anypads.parts import Byte, Kind, Overlay, Record, Row, Use
from tests.drawn import KINDS, drawn_part, every_path
from tests.values import ANY, GREAT, is_text_of, is_whole, raised_by, same

SHORT, LONG = Kind("short"), Kind("long", 3)
# A short has 2 bytes, aligned to 2; a long has 3 * 4 bytes, aligned to 4.
MACHINE = Machine([SHORT, LONG], {"short": (1, 1), "long": (2, 2)})
PAIR = Record([("x", Byte()), ("y", SHORT)])
VIEW = Overlay([("raw", Row(Byte(), 3)), ("pair", PAIR)])
WHOLE = Record([("a", Byte()), ("rows", Row(PAIR, 2)), ("view", VIEW), ("n", LONG)])
VALUE = {"a": 1, "rows": [{"x": 2, "y": 0x0403}, {"y": 0x0605, "x": 7}], "view": ("pair", {"x": 8, "y": 0xFFFF}), "n": 2 ** 95 + 9}
SHOWN = [1, 0, 2, 0, 3, 4, 7, 0, 5, 6, 8, 0, 255, 255, 0, 0, 9] + [0] * 10 + [128]


class Images(unittest.TestCase):
    def test_by_hand(self):
        self.assertEqual(image(MACHINE, WHOLE, VALUE), SHOWN)
        self.assertEqual(image(MACHINE, Byte(), 255), [255])
        self.assertEqual(image(MACHINE, SHORT, 258), [2, 1])
        self.assertEqual(image(MACHINE, Row(SHORT, 2), [1, 256]), [1, 0, 0, 1])
        self.assertEqual(image(machine=MACHINE, part=VIEW, value=("raw", [1, 2, 3])), [1, 2, 3, 0])

    def test_the_greatest_numbers(self):
        for part, size in ((Byte(), 1), (SHORT, 2), (LONG, 12)):
            for value, fine in [(0, True), (256 ** size - 1, True), (256 ** size, False), (-1, False), (True, False), (False, False)]:
                expected = None if fine else ("BadValue", "")
                self.assertEqual(raised_by(image, MACHINE, part, value), expected)
                self.assertEqual(raised_by(patched, MACHINE, Row(part, 1), [0] * size, "0", value), expected and ("BadValue", "0"))
            self.assertEqual(image(MACHINE, part, 256 ** size - 1), [255] * size)

    def test_the_image_belongs_to_the_caller(self):
        shown = image(MACHINE, WHOLE, VALUE)
        shown.clear()
        self.assertEqual(image(MACHINE, WHOLE, VALUE), SHOWN)

    def test_the_value_stays_as_it_is(self):
        value = copy.deepcopy(VALUE)
        image(MACHINE, WHOLE, value)
        self.assertTrue(same(value, VALUE))

    def test_wrong_values(self):
        for path, change in [
            ("", {"a": 1}), ("", {**VALUE, "b": 1}), ("", {"b": 1, **{name: VALUE[name] for name in ("rows", "view", "n")}}),
            ("", list(VALUE.items())), ("a", {**VALUE, "a": 256}), ("a", {**VALUE, "a": True}), ("a", {**VALUE, "a": None}),
            ("rows", {**VALUE, "rows": tuple(VALUE["rows"])}), ("rows", {**VALUE, "rows": VALUE["rows"][:1]}),
            ("rows", {**VALUE, "rows": VALUE["rows"] + VALUE["rows"]}), ("rows.1", {**VALUE, "rows": [VALUE["rows"][0], 3]}),
            ("rows.1.y", {**VALUE, "rows": [VALUE["rows"][0], {"x": 1, "y": 65536}]}), ("n", {**VALUE, "n": 2 ** 96}),
            ("view", {**VALUE, "view": ["raw", [1, 2, 3]]}), ("view", {**VALUE, "view": ("raw",)}),
            ("view", {**VALUE, "view": ("other", [1, 2, 3])}), ("view", {**VALUE, "view": ([], [1, 2, 3])}),
            ("view", {**VALUE, "view": ("raw", [1, 2, 3], 4)}), ("view.raw", {**VALUE, "view": ("raw", [1, 2])}),
            ("view.raw.2", {**VALUE, "view": ("raw", [1, 2, 256])}), ("view.pair.x", {**VALUE, "view": ("pair", {"x": -1, "y": 0})}),
        ]:
            self.assertEqual(raised_by(image, MACHINE, WHOLE, change), ("BadValue", path))

    def test_the_first_of_several_wrong_ones(self):
        wrong = {"a": 1, "rows": [{"x": 1, "y": -1}, None], "view": None, "n": None}
        self.assertEqual(raised_by(image, MACHINE, WHOLE, wrong), ("BadValue", "rows.0.y"))
        # A part is looked at ahead of those in it, fields in the order of the record.
        self.assertEqual(raised_by(image, MACHINE, WHOLE, {"n": None, "view": None, "rows": [None], "a": 1}), ("BadValue", "rows"))
        self.assertEqual(raised_by(image, MACHINE, WHOLE, {"n": None, "a": None}), ("BadValue", ""))
        self.assertEqual(raised_by(image, MACHINE, Row(PAIR, 2), [{"x": None, "y": None}, None]), ("BadValue", "0.x"))
        self.assertEqual(raised_by(image, MACHINE, VIEW, ("x", None, None)), ("BadValue", ""))

    def test_any_value(self):
        for value in ANY:
            fine = is_whole(value, 0, 255)
            self.assertEqual(raised_by(image, MACHINE, Byte(), value), None if fine else ("BadValue", ""))
            self.assertEqual(raised_by(image, MACHINE, Record([("a", Byte())]), {"a": value}), None if fine else ("BadValue", "a"))
            self.assertEqual(raised_by(image, MACHINE, Overlay([("a", Byte())]), (value, 1)), None if value == "a" else ("BadValue", ""))
            for part in (WHOLE, VIEW):
                self.assertEqual(raised_by(image, MACHINE, part, value), ("BadValue", ""))
            if not is_whole(value, 0, 65535):
                self.assertEqual(raised_by(image, MACHINE, SHORT, value), ("BadValue", ""))


class Numbers(unittest.TestCase):
    def test_by_hand(self):
        for path, number in [("a", 1), ("rows.0.x", 2), ("rows.0.y", 0x0403), ("rows.1.y", 0x0605), ("view.raw.2", 255), ("n", 2 ** 95 + 9)]:
            self.assertEqual(number_at(MACHINE, WHOLE, SHOWN, path), number)
        self.assertEqual(number_at(machine=MACHINE, part=WHOLE, shown=SHOWN, path="view.pair.y"), 0xFFFF)

    def test_patched(self):
        for path, number in [("a", 0), ("rows.1.y", 65535), ("n", 77), ("view.raw.1", 5)]:
            kept = list(SHOWN)
            found = patched(MACHINE, WHOLE, SHOWN, path, number)
            self.assertEqual(SHOWN, kept)
            self.assertIsNot(found, SHOWN)
            self.assertEqual(number_at(MACHINE, WHOLE, found, path), number)
            first, behind = MACHINE.place(WHOLE, path), MACHINE.end(WHOLE, path)
            self.assertEqual(found[:first] + found[behind:], SHOWN[:first] + SHOWN[behind:])
        again = patched(machine=MACHINE, part=WHOLE, shown=SHOWN, path="a", number=1)
        again.clear()
        self.assertEqual(len(SHOWN), 28)

    def test_any_bytes_are_an_image(self):
        noise = list(range(200, 228))
        self.assertEqual(number_at(MACHINE, WHOLE, noise, "rows.0.y"), 204 + 256 * 205)
        self.assertEqual(patched(MACHINE, WHOLE, noise, "a", 9), [9] + noise[1:])

    def test_what_is_no_image(self):
        for shown in (SHOWN[1:], SHOWN + [0], tuple(SHOWN), SHOWN[:-1] + [256], SHOWN[:-1] + [-1], SHOWN[:-1] + [True], [None] * 28, {}):
            self.assertEqual(raised_by(number_at, MACHINE, WHOLE, shown, "a"), ("BadValue", ""))
            self.assertEqual(raised_by(patched, MACHINE, WHOLE, shown, "a", None), ("BadValue", ""))
        for value in ANY:
            self.assertEqual(raised_by(number_at, MACHINE, WHOLE, value, "a"), ("BadValue", ""))

    def test_paths_to_no_number(self):
        for path in ("rows", "rows.0", "view", "view.raw", "view.pair"):
            self.assertEqual(raised_by(number_at, MACHINE, WHOLE, None, path), ("BadValue", path))
            self.assertEqual(raised_by(patched, MACHINE, WHOLE, None, path, None), ("BadValue", path))

    def test_paths_that_lead_nowhere(self):
        for path, at in (("", 0), ("b", 0), ("a.x", 1), ("rows.2.x", 1), ("rows.01", 1)):
            self.assertEqual(raised_by(number_at, MACHINE, WHOLE, None, path), ("NoPath", path, at))
        for value in ANY:
            if not is_text_of(value, ["a"]):
                expected = ("NoPath", value, 1 if is_text_of(value, ["a.b"]) else 0)
                self.assertEqual(raised_by(number_at, MACHINE, WHOLE, SHOWN, value), expected)
                self.assertEqual(raised_by(patched, MACHINE, WHOLE, SHOWN, value, 1), expected)
        self.assertEqual(raised_by(number_at, MACHINE, SHORT, [0, 0], "x"), ("NoPath", "x", 0))

    def test_numbers_that_are_too_great_by_one(self):
        for path, size in (("a", 1), ("rows.1.y", 2), ("view.pair.y", 2), ("view.raw.2", 1), ("n", 12)):
            self.assertEqual(raised_by(patched, MACHINE, WHOLE, SHOWN, path, 256 ** size), ("BadValue", path))
            self.assertIsNone(raised_by(patched, MACHINE, WHOLE, SHOWN, path, 256 ** size - 1))

    def test_any_number(self):
        for value in ANY:
            expected = None if is_whole(value, 0, 65535) else ("BadValue", "rows.0.y")
            self.assertEqual(raised_by(patched, MACHINE, WHOLE, SHOWN, "rows.0.y", value), expected)


class Refused(unittest.TestCase):
    def calls(self, part, path="x"):
        return [(image, MACHINE, part, None), (number_at, MACHINE, part, None, path), (patched, MACHINE, part, None, path, None)]

    def test_uses_and_kinds(self):
        part = Record([("a", Use("q")), ("b", Use("p")), ("c", Kind("other"))])
        for call in self.calls(part):
            self.assertEqual(raised_by(*call), ("Unresolved", "p"))
        for call in self.calls(Record([("c", Kind("other")), ("d", Kind("long"))])):
            self.assertEqual(raised_by(*call), ("NoScale", "size long"))

    def test_sizes(self):
        most, more = Row(Row(Byte(), 64), 64), Record([("a", Row(Row(Byte(), 64), 64)), ("b", Byte())])
        self.assertEqual(MACHINE.size(more), 4097)
        for call in self.calls(more):
            self.assertEqual(raised_by(*call), ("TooLarge", "image", 4096))
        for call in self.calls(more, None):
            self.assertEqual(raised_by(*call), ("TooLarge", "image", 4096))
        rows = [[(at + k) & 255 for k in range(64)] for at in range(64)]
        shown = image(MACHINE, most, rows)
        self.assertEqual(shown, [byte for row in rows for byte in row])
        self.assertEqual(number_at(MACHINE, most, shown, "63.62"), 125)
        self.assertEqual(raised_by(image, MACHINE, most, rows[:-1] + [rows[0][:-1] + [256]]), ("BadValue", "63.63"))

    def test_sizes_without_an_end(self):
        far = Machine([SHORT], {"short": (1000, 0)})
        self.assertEqual(raised_by(image, far, SHORT, 0), ("TooLarge", "image", 4096))
        near = Machine([SHORT], {"short": (12, 0)})
        self.assertEqual(image(near, SHORT, GREAT)[25:], [0] * 4071)
        self.assertEqual(raised_by(image, near, Row(SHORT, 2), None), ("TooLarge", "image", 4096))


class Drawn(unittest.TestCase):
    def value(self, rng, machine, part):
        if isinstance(part, Row):
            return [self.value(rng, machine, part.part) for _ in range(part.n)]
        if isinstance(part, Record):
            return {name: self.value(rng, machine, inner) for name, inner in part.fields}
        if isinstance(part, Overlay):
            name, inner = rng.choice(part.members)
            return name, self.value(rng, machine, inner)
        return rng.randrange(256 ** machine.size(part))

    def numbers(self, part, value, path=""):
        """The paths of the numbers that a value writes, and these."""
        if isinstance(value, int):
            return [(path, value)]
        steps = list(value.items()) if isinstance(value, dict) else [value]
        if isinstance(value, list):
            steps = [(str(at), inner) for at, inner in enumerate(value)]
        return [found for step, inner in steps for found in self.numbers(part, inner, f"{path}.{step}" if path else step)]

    def test_images_against_places(self):
        rng = random.Random(21)
        for _ in range(150):
            kinds = KINDS[:2]
            machine = Machine(kinds, {"a": (2, rng.randint(0, 2)), "b": (1, rng.randint(0, 1))})
            part = drawn_part(rng, kinds, rng.randint(1, 3), 1)
            if machine.size(part) > 4096:
                continue
            value = self.value(rng, machine, part)
            shown = image(machine, part, value)
            expected = [0] * machine.size(part)
            for path, number in self.numbers(part, value):
                place = machine.place(part, path)
                for at in range(machine.size(part[path])):
                    expected[place + at] = number >> (8 * at) & 255
                self.assertEqual(number_at(machine, part, shown, path), number)
            self.assertEqual(shown, expected)
            self.assertEqual(set(self.paths_of_numbers(part)) >= {path for path, _ in self.numbers(part, value)}, True)

    def paths_of_numbers(self, part):
        return [path for path in every_path(part) if isinstance(part[path], (Byte, Kind))]


if __name__ == "__main__":
    unittest.main()
