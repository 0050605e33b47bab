"""Point 3: parts, what their constructors refuse, their operators, equality and texts."""

import unittest

from anypads.errors import PadError
from anypads.parts import Byte, Group, Kind, Overlay, Part, Record, Row, Spread, Use
from tests.values import ANY, GREAT, OBJECTS, PARTS, is_whole, raised_by, same

BARRED = "byte size align place end packed and or not yes no for nogap notail leaf".split()
NEAR = (
    "bytes byt sizes siz aligns alig places plac ends en package ands an ors o nots yess ye nos n fo nogaps gap "
    "tail leafs lea leaves leastord pack"
).split()
GOOD_NAMES = ["a", "z", "ab", "abcdefgh", "zzzzzzzz", "int"] + NEAR
BAD_NAMES = [
    "", "abcdefghi", "A", "aB", "Byte", "a1", "1", "_a", "a_", "a ", " a", "a b", "a.b", "-", "{", "`", "|", "a" * 2000,
] + BARRED


def chain(depth):
    """A part of this depth, rows and records in turn."""
    part = Byte()
    for at in range(depth):
        part = Row(part, 2) if at & 1 else Record([("a", part)])
    return part


def fields(many):
    return [(letter, Byte()) for letter in "abcdefghijklmnop"[:many]]


class Names(unittest.TestCase):
    def test_good_names(self):
        for name in GOOD_NAMES:
            self.assertEqual(Kind(name).name, name)
            self.assertEqual(Use(name).name, name)
            self.assertEqual(Record([(name, Byte())]).fields[0][0], name)
            self.assertEqual(Overlay([(name, Byte())]).members[0][0], name)

    def test_bad_names(self):
        for name in BAD_NAMES:
            self.assertEqual(raised_by(Kind, name), ("BadName", name))
            self.assertEqual(raised_by(Use, name), ("BadName", name))
            for shape in (Record, Overlay):
                self.assertEqual(raised_by(shape, [("x", Byte()), (name, Byte())]), ("BadParts", 1))

    def test_any_value_as_a_name(self):
        for value in ANY:
            expected = None if value == "a" and isinstance(value, str) else ("BadName", value)
            self.assertEqual(raised_by(Kind, value), expected)
            self.assertEqual(raised_by(Use, value), expected)
            if expected:
                self.assertEqual(raised_by(Record, [(value, Byte())]), ("BadParts", 0))
                self.assertEqual(raised_by(Overlay, [(value, Byte())]), ("BadParts", 0))

    def test_the_error_keeps_the_very_name(self):
        for value in ([], {"a": [1]}, True):
            for shape in (Kind, Use):
                with self.assertRaises(PadError) as caught:
                    shape(value)
                self.assertIs(caught.exception.name, value)


class Kinds(unittest.TestCase):
    def test_times(self):
        for times in range(1, 9):
            self.assertEqual(Kind("int", times).times, times)
        self.assertEqual(Kind("int").times, 1)
        for times in (0, 9, -1, GREAT, -GREAT):
            self.assertEqual(raised_by(Kind, "int", times), ("BadTimes", times))

    def test_any_value_as_times(self):
        for value in ANY:
            expected = None if is_whole(value, 1, 8) else ("BadTimes", value)
            found = raised_by(Kind, "int", value)
            self.assertTrue(same(found, expected), (found, expected))

    def test_the_name_is_looked_at_first(self):
        self.assertEqual(raised_by(Kind, "byte", 0), ("BadName", "byte"))
        self.assertEqual(raised_by(Kind, None, None), ("BadName", None))

    def test_by_name(self):
        self.assertEqual(Kind(name="int", times=3), Kind("int", 3))
        self.assertEqual(Use(name="int"), Use("int"))
        self.assertEqual(Row(part=Byte(), n=3), Row(Byte(), 3))
        self.assertEqual(Record(fields=fields(2)), Record(fields(2)))
        self.assertEqual(Overlay(members=fields(2)), Overlay(fields(2)))


class Rows(unittest.TestCase):
    def test_numbers_of_elements(self):
        for n in (1, 2, 64):
            row = Row(Byte(), n)
            self.assertEqual([row.part, row.n, len(row), row.depth], [Byte(), n, n, 1])
        for n in (0, 65, -1, GREAT):
            self.assertEqual(raised_by(Row, Byte(), n), ("BadTimes", n))
            self.assertEqual(raised_by(lambda: Byte() * n), ("BadTimes", n))

    def test_any_value_as_the_part(self):
        for value in ANY:
            expected = None if any(value is part for part in PARTS) else ("BadParts", 0)
            self.assertEqual(raised_by(Row, value, 2), expected)
            self.assertEqual(raised_by(Row, value, 0), expected or ("BadTimes", 0))

    def test_any_value_as_the_number(self):
        for value in ANY:
            expected = None if is_whole(value, 1, 64) else ("BadTimes", value)
            for part in PARTS:
                self.assertTrue(same(raised_by(Row, part, value), expected))
                self.assertTrue(same(raised_by(lambda: part * value), expected))
                if expected is None:
                    self.assertEqual(part * value, Row(part, value))

    def test_the_depth_comes_last(self):
        self.assertEqual(raised_by(Row, chain(4), 0), ("BadTimes", 0))
        self.assertEqual(raised_by(Row, chain(4), 1), ("TooLarge", "depth", 4))
        self.assertEqual(raised_by(lambda: chain(4) * True), ("BadTimes", True))
        self.assertEqual(raised_by(lambda: chain(4) * 64), ("TooLarge", "depth", 4))


class RecordsAndOverlays(unittest.TestCase):
    def test_numbers_of_fields_and_members(self):
        for shape, most in ((Record, 8), (Overlay, 4)):
            for many in (1, 2, most):
                group = shape(fields(many))
                self.assertEqual([len(group), group.depth], [many, 1])
            for many in (0, most + 1, most + 5):
                self.assertEqual(raised_by(shape, fields(many)), ("BadParts", None))
                self.assertEqual(raised_by(shape, tuple(fields(many))), ("BadParts", None))
            self.assertEqual(shape(tuple(fields(3))), shape(fields(3)))

    def test_the_attributes_are_tuples_of_tuples(self):
        for shape, attribute in ((Record, "fields"), (Overlay, "members")):
            for told in (fields(3), tuple(fields(3))):
                found = getattr(shape(told), attribute)
                self.assertTrue(same([pair[0] for pair in found], ["a", "b", "c"]))
                self.assertIs(type(found), tuple)
                self.assertTrue(all(type(pair) is tuple and pair[1] == Byte() for pair in found))

    def test_any_value_as_the_fields(self):
        for shape, most in ((Record, 8), (Overlay, 4)):
            for value in ANY:
                expected = ("BadParts", None)
                if isinstance(value, (list, tuple)) and 1 <= len(value) <= most:
                    expected = ("BadParts", 0)
                if isinstance(value, list) and value == [("a", Byte())]:
                    expected = None
                self.assertEqual(raised_by(shape, value), expected)

    def test_any_value_as_a_field(self):
        for shape in (Record, Overlay):
            for value in ANY:
                for at in range(3):
                    told = fields(3)
                    told[at] = value
                    self.assertEqual(raised_by(shape, told), ("BadParts", at))
                expected = None if any(value is part for part in PARTS) else ("BadParts", 1)
                self.assertEqual(raised_by(shape, [("a", Byte()), ("b", value)]), expected)

    def test_what_is_no_such_tuple(self):
        for item in (["b", Byte()], ("b",), ("b", Byte(), Byte()), ("b", "byte"), (Byte(), "b"), ("b", None), ([], Byte())):
            for shape in (Record, Overlay):
                self.assertEqual(raised_by(shape, [("a", Byte()), item]), ("BadParts", 1))

    def test_names_twice(self):
        for shape in (Record, Overlay):
            self.assertEqual(raised_by(shape, [("a", Byte()), ("a", Byte())]), ("BadParts", 1))
            self.assertEqual(raised_by(shape, [("a", Byte()), ("b", Byte()), ("b", Kind("b")), ("a", 1)]), ("BadParts", 2))
            self.assertEqual(raised_by(shape, [("a", Byte()), ("b", 1), ("a", Byte())]), ("BadParts", 1))
        inner = Record([("a", Byte())])
        self.assertEqual(Record([("a", inner), ("b", inner)])["b.a"], Byte())

    def test_the_number_comes_ahead_of_the_items(self):
        self.assertEqual(raised_by(Record, [1] * 9), ("BadParts", None))
        self.assertEqual(raised_by(Record, [1] * 8), ("BadParts", 0))
        self.assertEqual(raised_by(Overlay, [1] * 5), ("BadParts", None))
        self.assertEqual(raised_by(Overlay, [1] * 4), ("BadParts", 0))

    def test_the_depth_comes_last(self):
        for shape in (Record, Overlay):
            self.assertEqual(raised_by(shape, [("a", chain(4)), ("a", Byte())]), ("BadParts", 1))
            self.assertEqual(raised_by(shape, [("a", chain(4)), ("b", None)]), ("BadParts", 1))
            self.assertEqual(raised_by(shape, [("a", Byte()), ("b", chain(4))]), ("TooLarge", "depth", 4))

    def test_lists_that_change_afterwards(self):
        for shape, attribute in ((Record, "fields"), (Overlay, "members")):
            told = fields(2)
            group = shape(told)
            before = str(group)
            told.append(("z", Byte()))
            told[0] = None
            self.assertEqual([str(group), len(group), len(getattr(group, attribute))], [before, 2, 2])

    def test_lists_are_not_changed(self):
        for shape in (Record, Overlay):
            told = fields(2)
            kept = list(told)
            shape(told)
            self.assertTrue(len(told) == 2 and all(one is other for one, other in zip(told, kept)))
            wrong = [("a", Byte()), ["b", Byte()]]
            raised_by(shape, wrong)
            self.assertEqual(wrong, [("a", Byte()), ["b", Byte()]])


class Joined(unittest.TestCase):
    def test_records(self):
        one = Record([("a", Byte()), ("b", Kind("i"))])
        other = Record([("c", Use("p"))])
        self.assertEqual(one + other, Record([("a", Byte()), ("b", Kind("i")), ("c", Use("p"))]))
        self.assertEqual(other + one, Record([("c", Use("p")), ("a", Byte()), ("b", Kind("i"))]))
        self.assertEqual([len(one), len(other)], [2, 1])
        self.assertEqual(raised_by(lambda: one + one), ("BadParts", 2))
        self.assertEqual(raised_by(lambda: one + Record([("c", Byte()), ("b", Byte())])), ("BadParts", 3))
        self.assertEqual(len(Record(fields(7)) + Record([("z", Byte())])), 8)
        self.assertEqual(raised_by(lambda: Record(fields(8)) + Record([("z", Byte())])), ("BadParts", None))
        self.assertEqual(raised_by(lambda: Record(fields(5)) + Record(fields(5))), ("BadParts", None))

    def test_overlays(self):
        one = Overlay([("a", Byte()), ("b", Kind("i"))])
        other = Overlay([("c", Use("p"))])
        self.assertEqual(one | other, Overlay([("a", Byte()), ("b", Kind("i")), ("c", Use("p"))]))
        self.assertEqual(raised_by(lambda: one | one), ("BadParts", 2))
        self.assertEqual(other | one, Overlay([("c", Use("p")), ("a", Byte()), ("b", Kind("i"))]))
        self.assertEqual(len(Overlay(fields(3)) | Overlay([("z", Byte())])), 4)
        self.assertEqual(raised_by(lambda: Overlay(fields(4)) | Overlay([("z", Byte())])), ("BadParts", None))

    def test_only_parts_of_the_same_class_are_joined(self):
        record, overlay = Record(fields(1)), Overlay(fields(1))
        for call in (lambda: record + overlay, lambda: record + 1, lambda: overlay | record, lambda: overlay | None):
            with self.assertRaises(TypeError):
                call()


class Depth(unittest.TestCase):
    def test_depths(self):
        for part in (Byte(), Kind("i", 8), Use("p")):
            self.assertEqual(part.depth, 0)
        for depth in range(5):
            self.assertEqual(chain(depth).depth, depth)

    def test_the_greatest_depth_within_counts(self):
        for depths in ((0, 3), (3, 0), (2, 3), (3, 3)):
            pairs = [(name, chain(depth)) for name, depth in zip("xy", depths)]
            self.assertEqual([Record(pairs).depth, Overlay(pairs).depth], [4, 4])
        self.assertEqual(Record([("x", chain(1)), ("y", Byte())]).depth, 2)

    def test_depth_five_is_refused(self):
        deep = chain(4)
        for call in (lambda: Row(deep, 1), lambda: Record([("a", deep)]), lambda: Overlay([("a", deep)])):
            self.assertEqual(raised_by(call), ("TooLarge", "depth", 4))
        self.assertEqual(raised_by(lambda: Byte() * 5 * 5 * 5 * 5 * 5), ("TooLarge", "depth", 4))


class Classes(unittest.TestCase):
    def test_class_values(self):
        self.assertEqual([Part.DEPTH, Row.MOST, Record.MOST, Overlay.MOST, Spread.AT], [4, 64, 8, 4, 0])
        self.assertEqual([Overlay.AT, Overlay(fields(1)).AT, Byte().DEPTH], [0, 0, 4])

    def test_bases(self):
        for shape in (Kind, Byte, Use, Group, Spread):
            self.assertEqual(shape.__bases__, (Part,))
        self.assertEqual([Row.__bases__, Record.__bases__, Overlay.__bases__], [(Group,), (Group,), (Group, Spread)])

    def test_the_bases_alone_are_no_parts(self):
        for base in (Part(), Group(), Spread()):
            self.assertEqual(raised_by(Row, base, 1), ("BadParts", 0))
            self.assertEqual(raised_by(Record, [("a", base)]), ("BadParts", 0))


class Equality(unittest.TestCase):
    def different(self):
        pairs, other = [("a", Byte()), ("b", Kind("i"))], [("b", Kind("i")), ("a", Byte())]
        return [
            Byte(), Kind("i"), Kind("i", 2), Kind("j"), Use("i"), Use("j"), Row(Byte(), 1), Row(Byte(), 2),
            Row(Kind("i"), 1), Row(Kind("i", 2), 1), Row(Row(Byte(), 1), 1), Record(pairs), Record(other),
            Record(pairs[:1]), Record([("b", Byte())]), Overlay(pairs), Overlay(other), Overlay(pairs[:1]),
            Record([("a", Record(pairs))]), Record([("a", Overlay(pairs))]), Record([("a", Row(Byte(), 1))]),
        ]

    def test_equal_and_different_parts(self):
        for at, one in enumerate(self.different()):
            for index, other in enumerate(self.different()):
                self.assertIs(one == other, at == index)
                self.assertIs(one != other, at != index)

    def test_nothing_else_is_equal(self):
        for part in PARTS:
            for value in ANY:
                if value is not part:
                    self.assertIs(part == value, False)
                    self.assertIs(value == part, False)
        self.assertFalse(Kind("i") == "i" or Record(fields(1)) == tuple(fields(1)))
        stranger = type("Kind", (), {"name": "i", "times": 1, "depth": 0})()
        self.assertIs(Kind("i") == stranger, False)


class Texts(unittest.TestCase):
    def test_texts(self):
        inner = Overlay([("a", Kind("int", 3)), ("b", Use("other"))])
        cases = [
            (Byte(), "byte"), (Kind("int"), "int"), (Kind("int", 8), "int"), (Use("other"), "@other"),
            (Row(Byte(), 64), "64*byte"), (Row(Row(Use("p"), 2), 3), "3*2*@p"),
            (Record([("x", Byte())]), "{x:byte}"), (inner, "(a:int|b:@other)"), (Overlay(fields(1)), "(a:byte)"),
            (Record([("x", Row(Byte(), 2)), ("y", inner)]), "{x:2*byte y:(a:int|b:@other)}"),
            (Overlay([("x", Record(fields(2))), ("y", Row(inner, 5))]), "(x:{a:byte b:byte}|y:5*(a:int|b:@other))"),
        ]
        for part, text in cases:
            self.assertEqual(str(part), text)


class Unlisted(unittest.TestCase):
    def test_parts_are_not_iterated_over(self):
        for part in PARTS:
            with self.assertRaises(TypeError):
                list(part)

    def test_other_objects_are_no_parts(self):
        for value in OBJECTS[len(PARTS):]:
            self.assertEqual(raised_by(Row, value, 1), ("BadParts", 0))


if __name__ == "__main__":
    unittest.main()
