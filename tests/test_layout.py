"""Point 7: sizes, alignments, places and ends, by hand and against a layout byte by byte."""

import itertools
import unittest

from anypads.machines import Machine
from anypads.parts import Byte, Kind, Overlay, Record, Row, Use
from tests.values import ANY, raised_by

SHORT, LONG = Kind("short"), Kind("long", 3)
# A short has 2 bytes, aligned to 2; a long has 3 * 8 bytes, aligned to 4.
MACHINE = Machine([SHORT, LONG], {"short": (1, 1), "long": (3, 2)})

TAIL = Record([("x", SHORT), ("y", Byte())])
ENTRY = Record([("tag", Byte()), ("x", LONG), ("y", TAIL)])
VIEW = Overlay([("x", Row(TAIL, 3)), ("y", ENTRY), ("raw", Row(Byte(), 41))])
WHOLE = Record([("x", Byte()), ("rows", Row(TAIL, 3)), ("y", ENTRY), ("view", VIEW), ("last", Row(LONG, 2)), ("z", Byte())])

# Path, place, size and alignment of what stands there.
TAIL_ROWS = [("x", 0, 2, 2), ("y", 2, 1, 1)]
ENTRY_ROWS = [("tag", 0, 1, 1), ("x", 4, 24, 4), ("y", 28, 4, 2), ("y.x", 28, 2, 2), ("y.y", 30, 1, 1)]
VIEW_ROWS = [
    ("x", 0, 12, 2), ("x.0", 0, 4, 2), ("x.1", 4, 4, 2), ("x.2", 8, 4, 2), ("x.2.x", 8, 2, 2), ("x.2.y", 10, 1, 1),
    ("y", 0, 32, 4), ("y.x", 4, 24, 4), ("y.y", 28, 4, 2), ("y.y.y", 30, 1, 1), ("raw", 0, 41, 1), ("raw.40", 40, 1, 1),
]
WHOLE_ROWS = [
    ("x", 0, 1, 1), ("rows", 2, 12, 2), ("rows.0", 2, 4, 2), ("rows.1", 6, 4, 2), ("rows.1.y", 8, 1, 1),
    ("rows.2", 10, 4, 2), ("rows.2.y", 12, 1, 1), ("y", 16, 32, 4), ("y.tag", 16, 1, 1), ("y.x", 20, 24, 4),
    ("y.y", 44, 4, 2), ("y.y.y", 46, 1, 1), ("view", 48, 44, 4), ("view.x", 48, 12, 2), ("view.x.2.y", 58, 1, 1),
    ("view.y", 48, 32, 4), ("view.y.x", 52, 24, 4), ("view.y.y.y", 78, 1, 1), ("view.raw", 48, 41, 1),
    ("view.raw.7", 55, 1, 1), ("last", 92, 48, 4), ("last.0", 92, 24, 4), ("last.1", 116, 24, 4), ("z", 140, 1, 1),
]


class ByHand(unittest.TestCase):
    def look(self, part, size, align, rows):
        self.assertEqual([MACHINE.size(part), MACHINE.align(part)], [size, align])
        for path, place, inner, boundary in rows:
            found = [MACHINE.place(part, path), MACHINE.end(part, path)]
            self.assertEqual(found, [place, place + inner], path)
            self.assertEqual([MACHINE.size(part[path]), MACHINE.align(part[path])], [inner, boundary], path)

    def test_ends_of_parts(self):
        self.look(Byte(), 1, 1, [])
        self.look(SHORT, 2, 2, [])
        self.look(LONG, 24, 4, [])

    def test_rows(self):
        self.look(Row(LONG, 5), 120, 4, [("0", 0, 24, 4), ("4", 96, 24, 4)])
        self.look(Row(Row(SHORT, 3), 2), 12, 2, [("0", 0, 6, 2), ("1", 6, 6, 2), ("1.2", 10, 2, 2)])
        self.look(Row(Byte(), 64), 64, 1, [("63", 63, 1, 1)])

    def test_records_with_a_tail(self):
        self.look(TAIL, 4, 2, TAIL_ROWS)
        self.look(ENTRY, 32, 4, ENTRY_ROWS)
        self.look(Row(TAIL, 3), 12, 2, [("0", 0, 4, 2), ("2", 8, 4, 2), ("2.y", 10, 1, 1)])

    def test_overlays(self):
        self.look(VIEW, 44, 4, VIEW_ROWS)

    def test_names_used_twice(self):
        self.look(WHOLE, 144, 4, WHOLE_ROWS)

    def test_by_name(self):
        found = [MACHINE.size(part=TAIL), MACHINE.align(part=TAIL), MACHINE.place(part=TAIL, path="y")]
        self.assertEqual(found + [MACHINE.end(part=TAIL, path="y")], [4, 2, 2, 3])

    def test_an_alignment_far_below_the_size(self):
        machine = Machine([SHORT], {"short": (6, 0)})
        part = Record([("a", Byte()), ("b", SHORT), ("c", Byte())])
        self.assertEqual([machine.place(part, "b"), machine.end(part, "b"), machine.size(part)], [1, 65, 66])

    def test_the_greatest_exponents(self):
        machine = Machine([SHORT, LONG], {"short": (1000, 1000), "long": (1000, 0)})
        part = Record([("a", LONG), ("b", SHORT)])
        self.assertEqual(machine.size(part), 4 * 2 ** 1000)
        self.assertEqual(machine.size(Row(part, 64)), 256 * 2 ** 1000)
        self.assertEqual(machine.place(Record([("a", Byte()), ("b", SHORT)]), "b"), 2 ** 1000)


def laid_out(part, table):
    """A size and an alignment, found by going on byte by byte."""
    if isinstance(part, Byte):
        return 1, 1
    if isinstance(part, Kind):
        s, a = table[part.name]
        return part.times * 2 ** s, 2 ** a
    if isinstance(part, Row):
        size, align = laid_out(part.part, table)
        return size * part.n, align
    if isinstance(part, Overlay):
        inner = [laid_out(member, table) for _, member in part.members]
        end, align = max(size for size, _ in inner), max(align for _, align in inner)
    else:
        end, align = places(part, table)[1:]
    while end % align:
        end += 1
    return end, align


def places(record, table):
    found, end, greatest = {}, 0, 1
    for name, part in record.fields:
        size, align = laid_out(part, table)
        while end % align:
            end += 1
        found[name] = end
        end, greatest = end + size, max(greatest, align)
    return found, end, greatest


class OnSmallMachines(unittest.TestCase):
    def test_all_small_machines(self):
        pairs = [(s, a) for s in range(4) for a in range(s + 1)]
        for one, other in itertools.product(pairs, pairs):
            table = {"short": one, "long": other}
            machine = Machine([SHORT, LONG], table)
            for part in (WHOLE, VIEW, ENTRY, TAIL, Row(ENTRY, 7), SHORT, LONG):
                self.assertEqual((machine.size(part), machine.align(part)), laid_out(part, table))
            for record in (WHOLE, ENTRY, TAIL):
                for name, place in places(record, table)[0].items():
                    size = laid_out(record[name], table)[0]
                    self.assertEqual([machine.place(record, name), machine.end(record, name)], [place, place + size])
            for name, place in places(ENTRY, table)[0].items():
                ahead = places(WHOLE, table)[0]["view"]
                self.assertEqual(machine.place(WHOLE, "view.y." + name), ahead + place)


class Refused(unittest.TestCase):
    def calls(self, part, path):
        return [
            lambda: MACHINE.size(part), lambda: MACHINE.align(part), lambda: MACHINE.place(part, path),
            lambda: MACHINE.end(part, path),
        ]

    def look(self, part, path, *told):
        for call in self.calls(part, path):
            self.assertEqual(raised_by(call), told)

    def test_uses(self):
        part = Record([("a", Kind("other")), ("b", Row(Use("q"), 2)), ("c", Use("p")), ("d", Byte())])
        self.look(part, "d", "Unresolved", "p")
        self.look(part, "nowhere", "Unresolved", "p")
        self.look(Use("q"), "", "Unresolved", "q")

    def test_kinds_that_the_machine_has_not(self):
        part = Record([("a", SHORT), ("b", Row(Kind("z"), 2)), ("c", Kind("other")), ("d", Byte())])
        self.look(part, "d", "NoScale", "size other")
        self.look(part, "nowhere", "NoScale", "size other")
        self.look(Kind("short", 2), "x", "NoScale", "size short")
        self.look(Record([("a", LONG), ("b", Kind("long"))]), "a", "NoScale", "size long")

    def test_paths(self):
        for path, at in (("", 0), ("w", 0), ("rows.3", 1), ("rows.01", 1), ("view.x.2.z", 3), ("view.raw.41", 2), ("x.x", 1)):
            for call in self.calls(WHOLE, path)[2:]:
                self.assertEqual(raised_by(call), ("NoPath", path, at))
        for value in ANY:
            if not isinstance(value, str):
                for call in self.calls(WHOLE, value)[2:]:
                    self.assertEqual(raised_by(call), ("NoPath", value, 0))
        for part in (Byte(), SHORT):
            for call in self.calls(part, "x")[2:]:
                self.assertEqual(raised_by(call), ("NoPath", "x", 0))


if __name__ == "__main__":
    unittest.main()
