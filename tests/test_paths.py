"""Point 4: paths, what stands at them, and parts with another part at a path."""

import unittest

from anypads.errors import PadError
from anypads.parts import Byte, Kind, Overlay, Record, Row, Use
from tests.values import ANY, PARTS, raised_by

INT = Kind("int")
INNER = Record([("a", INT), ("b", Byte())])
VIEW = Overlay([("raw", Row(Byte(), 12)), ("two", Row(INNER, 2)), ("in", INNER)])
WHOLE = Record([("x", INT), ("rows", Row(Row(Use("p"), 2), 64)), ("view", VIEW), ("a", Use("other"))])

GOOD = [
    ("x", INT), ("a", Use("other")), ("rows", Row(Row(Use("p"), 2), 64)), ("rows.0", Row(Use("p"), 2)),
    ("rows.63.1", Use("p")), ("rows.10.0", Use("p")), ("view", VIEW), ("view.raw", Row(Byte(), 12)),
    ("view.raw.0", Byte()), ("view.raw.11", Byte()), ("view.two.1", INNER), ("view.two.1.a", INT), ("view.in", INNER),
    ("view.in.b", Byte()),
]
WRONG = [
    ("", 0), (" ", 0), (".", 0), ("..", 0), ("y", 0), ("X", 0), ("x ", 0), (" x", 0), (".x", 0), ("0", 0), ("x.", 1),
    ("x.y", 1), ("x.0", 1), ("x..a", 1), ("a.x", 1), ("a.0", 1), ("rows.", 1), ("rows.64", 1), ("rows.65", 1),
    ("rows.-1", 1), ("rows.+1", 1), ("rows.01", 1), ("rows.00", 1), ("rows. 1", 1), ("rows.1 ", 1), ("rows.-0", 1),
    ("rows.1_0", 1), ("rows.x", 1), ("rows.0x1", 1), ("rows.1000000000000000000000", 1), ("rows.0.2", 2),
    ("rows.0.1.0", 3), ("rows.0..1", 2), ("rows.63.1.", 3), ("rows.64.0", 1), ("view.0", 1), ("view.raw.12", 2),
    ("view.two.a", 2), ("view.two.2.a", 2), ("view.two.1.c", 3), ("view.two.1.a.a", 4), ("view.in.c", 2), ("in", 0),
    ("view.x", 1), ("x.y.z", 1), ("y.x", 0), ("view/raw", 0), ("view,raw", 0), ("x" * 2000, 0),
]


class Steps(unittest.TestCase):
    def test_paths_that_lead_somewhere(self):
        for path, part in GOOD:
            self.assertEqual(WHOLE[path], part)
            self.assertIs(path in WHOLE, True)

    def test_paths_that_lead_nowhere(self):
        for path, at in WRONG:
            self.assertEqual(raised_by(lambda: WHOLE[path]), ("NoPath", path, at))
            self.assertIs(path in WHOLE, False)

    def test_every_index_of_a_row(self):
        row = Row(INT, 64)
        self.assertEqual([k for k in range(-70, 140) if str(k) in row], list(range(64)))

    def test_the_ends_have_no_steps(self):
        for part in (INT, Byte(), Use("p")):
            for path, _ in GOOD + WRONG + [("name", 0), ("p", 0), ("int", 0)]:
                self.assertEqual(raised_by(lambda: part[path]), ("NoPath", path, 0))
                self.assertIs(path in part, False)

    def test_any_value_as_a_path(self):
        for part in PARTS:
            for value in ANY:
                if isinstance(value, str):
                    continue
                with self.assertRaises(PadError) as caught:
                    part[value]
                self.assertIs(caught.exception.path, value)
                self.assertEqual(raised_by(lambda: part[value]), ("NoPath", value, 0))
                self.assertIs(value in part, False)

    def test_numbers_are_no_paths(self):
        self.assertEqual(raised_by(lambda: Row(Byte(), 2)[0]), ("NoPath", 0, 0))
        self.assertFalse(0 in Row(Byte(), 2))


class Paths(unittest.TestCase):
    def test_each_path_ahead_of_those_within_it(self):
        expected = ["x", "rows", "view", "view.raw", "view.two", "view.in", "view.in.a", "view.in.b", "a"]
        self.assertEqual(list(WHOLE.paths()), expected)
        self.assertEqual(list(VIEW.paths()), ["raw", "two", "in", "in.a", "in.b"])

    def test_parts_without_any(self):
        for part in (INT, Byte(), Use("p"), Row(INNER, 3), Row(VIEW, 2)):
            self.assertEqual(list(part.paths()), [])

    def test_it_is_a_generator_and_all_of_it_leads_somewhere(self):
        paths = WHOLE.paths()
        self.assertIs(iter(paths), paths)
        self.assertEqual([next(paths), next(paths)], ["x", "rows"])
        self.assertTrue(all(path in WHOLE for path in WHOLE.paths()))


class Put(unittest.TestCase):
    def test_another_part(self):
        self.assertEqual(str(INNER.put("a", Use("p"))), "{a:@p b:byte}")
        self.assertEqual(str(INNER.put("b", VIEW)), "{a:int b:(raw:12*byte|two:2*{a:int b:byte}|in:{a:int b:byte})}")
        self.assertEqual(str(VIEW.put("in.b", INT)), "(raw:12*byte|two:2*{a:int b:byte}|in:{a:int b:int})")
        self.assertEqual(str(VIEW.put("two", INT)), "(raw:12*byte|two:int|in:{a:int b:byte})")
        found = WHOLE.put("view.in.a", Row(INT, 2))
        self.assertEqual(str(found["view.in"]), "{a:2*int b:byte}")
        self.assertEqual([found["x"], found["view.two.0"], found["rows"]], [INT, INNER, WHOLE["rows"]])
        self.assertEqual(INNER.put(path="a", other=Byte()), Record([("a", Byte()), ("b", Byte())]))

    def test_every_path_of_a_part(self):
        for path in WHOLE.paths():
            found = WHOLE.put(path, Kind("new", 7))
            self.assertEqual(found[path], Kind("new", 7))
            self.assertNotEqual(found, WHOLE)
            self.assertEqual(found.put(path, WHOLE[path]), WHOLE)
            others = [other for other in WHOLE.paths() if not (other + ".").startswith(path + ".")]
            kept = [other for other in others if not path.startswith(other + ".")]
            self.assertTrue(all(found[other] == WHOLE[other] for other in kept))

    def test_nothing_else_changes(self):
        before = str(WHOLE)
        WHOLE.put("view.in.a", Byte())
        raised_by(WHOLE.put, "view.in.a", 1)
        self.assertEqual(str(WHOLE), before)

    def test_paths_that_lead_nowhere(self):
        for path, at in WRONG:
            expected = 1 if path.startswith("rows.") else 2 if path.startswith(("view.raw.", "view.two.")) else at
            self.assertEqual(raised_by(WHOLE.put, path, Byte()), ("NoPath", path, expected))
            self.assertEqual(raised_by(WHOLE.put, path, None), ("NoPath", path, expected))

    def test_an_index_leads_nowhere(self):
        for path, at in (("rows.0", 1), ("rows.0.1", 1), ("view.raw.0", 2), ("view.two.1.a", 2), ("view.two.1", 2)):
            self.assertIn(path, WHOLE)
            self.assertEqual(raised_by(WHOLE.put, path, Byte()), ("NoPath", path, at))
        self.assertEqual(raised_by(Row(Byte(), 2).put, "0", Byte()), ("NoPath", "0", 0))

    def test_parts_without_steps(self):
        for part in (INT, Byte(), Use("p")):
            self.assertEqual(raised_by(part.put, "x", None), ("NoPath", "x", 0))

    def test_any_value_as_a_path(self):
        for part in PARTS:
            for value in ANY:
                if not isinstance(value, str):
                    self.assertEqual(raised_by(part.put, value, Byte()), ("NoPath", value, 0))
                    self.assertEqual(raised_by(part.put, value, value), ("NoPath", value, 0))

    def test_any_value_as_the_other_part(self):
        for value in ANY:
            expected = None if any(value is part for part in PARTS) else ("BadParts", 0)
            self.assertEqual(raised_by(INNER.put, "a", value), expected)
            self.assertEqual(raised_by(VIEW.put, "in.b", value), expected)

    def test_the_depth_comes_last(self):
        deep = Byte() * 2 * 2 * 2
        self.assertEqual(INNER.put("a", deep).depth, 4)
        self.assertEqual(raised_by(INNER.put, "a", deep * 2), ("TooLarge", "depth", 4))
        self.assertEqual(raised_by(VIEW.put, "in.a", deep), ("TooLarge", "depth", 4))
        self.assertEqual(VIEW.put("in", deep).depth, 4)
        self.assertEqual(raised_by(VIEW.put, "in.c", deep), ("NoPath", "in.c", 1))
        self.assertEqual(raised_by(VIEW.put, "raw.0", deep), ("NoPath", "raw.0", 1))


if __name__ == "__main__":
    unittest.main()
