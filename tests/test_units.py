"""Point 5: the units of parts, and the kinds and uses in them."""

import unittest

from anypads.parts import Byte, Kind, Overlay, Record, Row, Use, units
from tests.values import raised_by


class Units(unittest.TestCase):
    def test_units(self):
        two = Record([("a", Byte()), ("b", Kind("int", 3))])
        cases = [
            (Byte(), 1), (Kind("int"), 1), (Kind("int", 8), 8), (Row(Byte(), 1), 1), (Row(Kind("int", 3), 64), 192),
            (two, 6), (Record([("a", Byte())]), 2), (Row(two, 5), 30), (Overlay([("a", Byte())]), 2),
            (Overlay([("a", two), ("b", Row(Byte(), 7)), ("c", Byte())]), 8),
            (Overlay([("a", two), ("b", Byte())]), 7), (Record([("x", two), ("y", two)]), 14),
            (Record([("x", Row(two, 2)), ("y", Overlay([("z", two)])), ("w", Byte())]), 12 + 7 + 1 + 3),
            (Row(Row(Row(Row(Kind("i", 8), 64), 64), 64), 64), 8 * 64 ** 4),
        ]
        for part, number in cases:
            self.assertEqual(units(part), number)
            self.assertIs(type(units(part)), int)
        self.assertEqual(units(part=two), 6)

    def test_the_least_name_of_a_use(self):
        self.assertEqual(raised_by(units, Use("p")), ("Unresolved", "p"))
        part = Record([("a", Use("q")), ("b", Row(Overlay([("c", Use("pa")), ("d", Use("z"))]), 2)), ("e", Use("pb"))])
        self.assertEqual(raised_by(units, part), ("Unresolved", "pa"))


class KindsAndUses(unittest.TestCase):
    def test_kinds_by_name_then_by_times(self):
        row = Row(Kind("b", 2), 3)
        inner = Overlay([("x", row), ("y", Kind("ab")), ("z", Use("kind"))])
        part = Record([("b", Kind("b", 8)), ("a", Kind("b", 1)), ("c", inner), ("d", Kind("a", 5)), ("e", Kind("b", 2))])
        expected = (Kind("a", 5), Kind("ab"), Kind("b"), Kind("b", 2), Kind("b", 8))
        self.assertEqual(part.kinds_in(), expected)
        self.assertIs(type(part.kinds_in()), tuple)
        self.assertEqual(inner.kinds_in(), (Kind("ab"), Kind("b", 2)))

    def test_kinds_of_plain_parts(self):
        self.assertEqual([Byte().kinds_in(), Use("p").kinds_in(), Kind("p", 3).kinds_in()], [(), (), (Kind("p", 3),)])
        self.assertEqual(Row(Row(Kind("p"), 9), 2).kinds_in(), (Kind("p"),))

    def test_uses_ascending_without_duplicates(self):
        part = Record([("a", Use("q")), ("b", Row(Overlay([("c", Use("pa")), ("d", Use("q"))]), 2)), ("e", Use("p"))])
        self.assertEqual(part.uses(), ("p", "pa", "q"))
        self.assertEqual(Use("p").uses(), ("p",))
        self.assertEqual([Byte().uses(), Kind("p").uses(), Row(Kind("p"), 2).uses()], [(), (), ()])
        self.assertIs(type(part.uses()), tuple)

    def test_many(self):
        letters = "hgfedcba"
        inner = [(x, Record([(y, Kind(x + y)) for y in letters])) for x in letters]
        names = [x + y for x in sorted(letters) for y in sorted(letters)]
        self.assertEqual([kind.name for kind in Record(inner).kinds_in()], names)


if __name__ == "__main__":
    unittest.main()
