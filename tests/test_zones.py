"""Points 13 to 15: zones, what their operators and methods return and refuse."""

import itertools
import unittest

from anypads.machines import Machine
from anypads.parts import Byte, Kind
from anypads.zones import Zone
from tests.values import ANY, GREAT, is_text_of, is_whole, raised_by, same

INT, LONG, SHORT = Kind("int"), Kind("long"), Kind("short", 3)
NAMES = ["byte", "size int", "align int", "size long", "align long"]
FREE = Zone(INT, LONG)
# int is at most long, long is 8 at most.
SOME = FREE.within("size int", "size long", 0).within("size long", "byte", 3)
EMPTY = FREE.within("size int", "byte", -1)


class Made(unittest.TestCase):
    def test_kinds_and_scales(self):
        zone = Zone(LONG, INT, SHORT)
        self.assertEqual(zone.kinds, (LONG, INT, SHORT))
        self.assertEqual(zone.scales, ("size long", "align long", "size int", "align int", "size short", "align short"))
        self.assertEqual([Zone.MOST, zone.MOST], [2000, 2000])

    def test_of(self):
        for kinds in ([INT], (INT, LONG), [SHORT, LONG, INT]):
            self.assertEqual(Zone.of(kinds), Zone(*kinds))
        self.assertEqual(Zone.of(kinds=[INT]), Zone(INT))

    def test_wrong_kinds(self):
        self.assertEqual(raised_by(Zone), ("BadParts", None))
        self.assertEqual(raised_by(Zone, INT, LONG, SHORT, Kind("a")), ("BadParts", None))
        self.assertEqual(raised_by(Zone, INT, INT, INT, INT), ("BadParts", None))
        self.assertEqual(raised_by(Zone, INT, None, 5), ("BadParts", 1))
        self.assertEqual(raised_by(Zone, INT, INT, Byte()), ("BadParts", 2))
        self.assertEqual(raised_by(Zone, INT, LONG, Kind("int", 2)), ("Taken", "int"))
        for many in (0, 4):
            self.assertEqual(raised_by(Zone.of, [INT] * many), ("BadParts", None))
        self.assertEqual(raised_by(Zone.of, [INT, 1]), ("BadParts", 1))
        self.assertEqual(raised_by(Zone.of, (INT, LONG, LONG)), ("Taken", "long"))

    def test_any_values_as_kinds(self):
        for value in ANY:
            fine = isinstance(value, Kind)
            self.assertEqual(raised_by(Zone, value), None if fine else ("BadParts", 0))
            self.assertEqual(raised_by(Zone, LONG, value), None if fine else ("BadParts", 1))
            few = isinstance(value, (list, tuple)) and 1 <= len(value) <= 3
            self.assertEqual(raised_by(Zone.of, value), ("BadParts", 0 if few else None))

    def test_what_is_passed_may_change_afterwards(self):
        kinds = [INT, LONG]
        zone = Zone.of(kinds)
        kinds.pop()
        self.assertEqual(zone.kinds, (INT, LONG))


class Bounds(unittest.TestCase):
    def test_the_document(self):
        self.assertEqual(
            [SOME["size int", "byte"], SOME["align int", "size long"], SOME["byte", "align int"], SOME["size long", "align long"]],
            [3, 0, 0, 3],
        )

    def test_own_bounds(self):
        for i, j in itertools.product(NAMES, NAMES):
            known = i == j or i == "byte" or (i, j) in (("align int", "size int"), ("align long", "size long"))
            self.assertEqual(FREE[i, j], 0 if known else None, (i, j))

    def test_within_changes_nothing(self):
        zone = FREE.within("size int", "byte", 4)
        self.assertEqual([zone["size int", "byte"], FREE["size int", "byte"]], [4, None])
        self.assertIsNot(FREE.within("size int", "byte", 2000), FREE)

    def test_bounds_of_a_name_and_itself(self):
        for name in NAMES:
            self.assertEqual(SOME.within(name, name, 0), SOME)
            self.assertEqual(SOME.within(name, name, 2000), SOME)
            self.assertFalse(SOME.within(name, name, -1))
            self.assertEqual(SOME[name, name], 0)

    def test_numbers_of_bounds(self):
        for c in (-2000, 2000, -1999, 1999, 0):
            zone = FREE.within("size int", "size long", c)
            self.assertEqual(zone["size int", "size long"], c)
        for c in (-2001, 2001, GREAT, -GREAT, True, False):
            self.assertTrue(same(raised_by(FREE.within, "size int", "size long", c), ("BadBound", c)))
            self.assertTrue(same(raised_by(FREE.sides, "size int", "size long", c), ("BadBound", c)))

    def test_sums_go_beyond_the_numbers_of_bounds(self):
        zone = FREE.within("byte", "align int", -2000).within("size int", "align long", -2000)
        self.assertEqual([zone.least()["align long"], zone["byte", "size long"]], [4000, -4000])

    def test_any_values(self):
        for value in ANY:
            known = is_text_of(value, NAMES)
            for call in (FREE.within, FREE.sides):
                self.assertEqual(raised_by(call, value, "byte", 1), None if known else ("NoScale", value))
                self.assertEqual(raised_by(call, "byte", value, 1), None if known else ("NoScale", value))
                expected = None if is_whole(value, -2000, 2000) else ("BadBound", value)
                self.assertTrue(same(raised_by(call, "byte", "size int", value), expected))
            self.assertEqual(raised_by(lambda: FREE[value, "byte"]), None if known else ("NoScale", value))
            self.assertEqual(raised_by(lambda: FREE["byte", value]), None if known else ("NoScale", value))

    def test_the_order_of_errors(self):
        for call in (FREE.within, FREE.sides, EMPTY.within):
            self.assertEqual(raised_by(call, "size short", "size x", None), ("NoScale", "size short"))
            self.assertEqual(raised_by(call, "size int", "size x", None), ("NoScale", "size x"))
            self.assertEqual(raised_by(call, "size int", "size int", None), ("BadBound", None))
        self.assertEqual(raised_by(lambda: EMPTY["size x", "size y"]), ("NoScale", "size x"))
        self.assertEqual(raised_by(lambda: EMPTY["byte", "size y"]), ("NoScale", "size y"))
        self.assertEqual(raised_by(lambda: EMPTY["byte", "byte"]), ("Barred",))
        self.assertEqual(raised_by(lambda: SOME["size int", "size short"]), ("NoScale", "size short"))

    def test_by_name(self):
        self.assertEqual(FREE.within(i="size int", j="byte", c=3), FREE.within("size int", "byte", 3))
        self.assertEqual(FREE.sides(c=3, i="size int", j="byte"), FREE.sides("size int", "byte", 3))

    def test_sides(self):
        for c in (-3, -1, 0, 2):
            inside, outside = SOME.sides("size int", "align long", c)
            self.assertEqual(inside, SOME.within("size int", "align long", c))
            self.assertEqual(outside, SOME.within("align long", "size int", -c - 1))

    def test_the_ends_of_sides(self):
        inside, outside = FREE.sides("size int", "size long", 2000)
        self.assertEqual([inside["size int", "size long"], outside["size long", "size int"]], [2000, -2001])
        self.assertEqual(outside.least()["size int"], 2001)
        inside, outside = FREE.sides("size int", "byte", 2000)
        self.assertEqual(outside.least(), {"size int": 2001, "align int": 0, "size long": 0, "align long": 0})
        nothing = outside.within("size int", "byte", 2000)
        self.assertTrue(nothing.is_ring([("byte", "size int", -2001), ("size int", "byte", 2000)]))
        inside, outside = FREE.sides("size int", "size long", -2000)
        self.assertEqual([inside["size int", "size long"], outside["size long", "size int"]], [-2000, 1999])


class Corners(unittest.TestCase):
    def test_least(self):
        zone = SOME.within("align int", "align long", -1)
        self.assertEqual(list(zone.least().items()), [("size int", 0), ("align int", 0), ("size long", 1), ("align long", 1)])
        self.assertEqual(FREE.least(), dict.fromkeys(FREE.scales, 0))

    def test_greatest(self):
        self.assertEqual(list(SOME.greatest().items()), [(scale, 3) for scale in SOME.scales])
        zone = FREE.within("align int", "byte", 2)
        self.assertEqual(zone.greatest(), {"size int": None, "align int": 2, "size long": None, "align long": None})

    def test_they_belong_to_the_caller(self):
        for call in (SOME.least, SOME.greatest):
            first = call()
            kept = dict(first)
            first.clear()
            self.assertEqual(call(), kept)

    def test_empty_zones(self):
        self.assertEqual(raised_by(EMPTY.least), ("Barred",))
        self.assertEqual(raised_by(EMPTY.greatest), ("Barred",))
        self.assertEqual(raised_by(lambda: next(EMPTY.bounds())), ("Barred",))
        self.assertEqual(raised_by(lambda: list(EMPTY.bounds())), ("Barred",))

    def test_bounds(self):
        zone = Zone(INT).within("size int", "byte", 2)
        expected = [
            ("byte", "size int", 0), ("byte", "align int", 0), ("size int", "byte", 2), ("size int", "align int", 2),
            ("align int", "byte", 2), ("align int", "size int", 0),
        ]
        self.assertEqual(list(zone.bounds()), expected)
        self.assertEqual(list(Zone(INT).bounds()), [("byte", "size int", 0), ("byte", "align int", 0), ("align int", "size int", 0)])

    def test_texts(self):
        self.assertEqual(
            str(Zone(INT).within("size int", "byte", 2)),
            "byte - size int <= 0, byte - align int <= 0, size int - byte <= 2, size int - align int <= 2, "
            "align int - byte <= 2, align int - size int <= 0",
        )
        self.assertEqual(str(EMPTY), "nothing")
        self.assertIn("byte - align int <= -3", str(Zone(INT).within("byte", "align int", -3)))


class Truth(unittest.TestCase):
    def test_empty_by_one_bound(self):
        self.assertIs(bool(FREE), True)
        for i, j, c in (("size int", "byte", -1), ("size int", "align int", -1), ("byte", "byte", -1)):
            self.assertIs(bool(FREE.within(i, j, c)), False)
            self.assertIs(bool(FREE.within(i, j, c).within("size int", "byte", 5)), False)

    def test_empty_by_rings(self):
        three = FREE.within("size int", "align long", 1).within("align long", "size int", -2)
        self.assertFalse(three)
        five = Zone(INT, LONG, SHORT)
        ring = [
            ("align int", "align long", -1), ("align long", "size short", 2), ("size short", "size long", -3),
            ("size long", "align int", 1),
        ]
        for bound in ring:
            five = five.within(*bound)
        self.assertFalse(five)
        self.assertTrue(five.is_ring(ring))

    def test_a_ring_that_adds_up_to_just_nothing(self):
        zone = FREE.within("size int", "align long", -2).within("align long", "byte", 4).within("byte", "size int", -2)
        self.assertTrue(zone)
        self.assertEqual(zone.least(), {"size int": 2, "align int": 0, "size long": 4, "align long": 4})
        self.assertFalse(zone.is_ring([("size int", "align long", -2), ("align long", "byte", 4), ("byte", "size int", -2)]))
        self.assertFalse(zone.within("byte", "size int", -3))

    def test_equal(self):
        self.assertEqual(SOME.within("size int", "byte", 3), SOME)
        self.assertNotEqual(SOME.within("size int", "byte", 2), SOME)
        self.assertEqual(EMPTY, FREE.within("byte", "byte", -5))
        self.assertNotEqual(EMPTY, FREE)
        self.assertNotEqual(Zone(INT, LONG), Zone(LONG, INT))
        self.assertNotEqual(Zone(INT), Zone(Kind("int", 2)))
        self.assertNotEqual(EMPTY, Zone(LONG, INT).within("byte", "byte", -1))

    def test_nothing_else_is_equal(self):
        for value in ANY:
            if not isinstance(value, Zone):
                self.assertIs(FREE == value, False)
                self.assertIs(FREE != value, True)


class Points(unittest.TestCase):
    def point(self, *numbers):
        return dict(zip(SOME.scales, numbers))

    def test_points(self):
        for numbers, expected in [
            ((0, 0, 0, 0), True), ((3, 3, 3, 3), True), ((1, 0, 2, 1), True), ((2, 0, 1, 0), False), ((0, 0, 4, 0), False),
            ((1, 2, 3, 0), False), ((0, 0, -1, 0), False), ((0, 0, 0, -1), False), ((0, 0, 1, True), False),
            ((False, 0, 0, 0), False), ((0, 0, 0, None), False), ((0, 0, 0, "0"), False), ((GREAT, 0, GREAT, 0), False),
        ]:
            self.assertIs(self.point(*numbers) in SOME, expected, numbers)
        self.assertIn(self.point(GREAT, 0, GREAT, GREAT), FREE)

    def test_keys(self):
        fine = self.point(1, 1, 1, 1)
        self.assertIn(dict(reversed(list(fine.items()))), SOME)
        self.assertNotIn({**fine, "byte": 0}, SOME)
        self.assertNotIn({**fine, "size short": 0}, SOME)
        self.assertNotIn({scale: 1 for scale in SOME.scales[1:]}, SOME)
        self.assertNotIn({None: 1, **{scale: 1 for scale in SOME.scales[1:]}}, SOME)
        self.assertNotIn([1, 1, 1, 1], SOME)
        self.assertNotIn(tuple(fine.items()), SOME)

    def test_machines(self):
        exponents = {"int": (1, 0), "long": (2, 1)}
        self.assertIn(Machine([INT, LONG], exponents), SOME)
        self.assertNotIn(Machine([LONG, INT], exponents), SOME)
        self.assertNotIn(Machine([Kind("int", 2), LONG], exponents), SOME)
        self.assertNotIn(Machine([INT], {"int": (1, 0)}), SOME)
        self.assertNotIn(Machine([INT, LONG], {"int": (3, 0), "long": (2, 1)}), SOME)
        self.assertIn(Machine([INT, LONG], {"int": (1000, 1000), "long": (1000, 1000)}), FREE)

    def test_any_value(self):
        for value in ANY:
            self.assertIs(value in FREE, False)
            self.assertIs(value in EMPTY, False)
        self.assertNotIn(self.point(0, 0, 0, 0), EMPTY)


class Joined(unittest.TestCase):
    def test_and(self):
        other = FREE.within("byte", "align int", -2)
        both = SOME & other
        self.assertEqual(both, other & SOME)
        self.assertEqual(both.least(), {"size int": 2, "align int": 2, "size long": 2, "align long": 0})
        self.assertFalse(EMPTY & SOME)
        self.assertFalse(SOME & EMPTY)
        nothing = SOME & FREE.within("byte", "align int", -4)
        self.assertFalse(nothing)
        self.assertTrue(nothing.is_ring([
            ("byte", "align int", -4), ("align int", "size int", 0), ("size int", "size long", 0), ("size long", "byte", 3),
        ]))

    def test_assigned(self):
        zone = SOME
        zone &= FREE.within("size int", "byte", 0)
        self.assertEqual([zone["size int", "byte"], SOME["size int", "byte"]], [0, 3])

    def test_at_most(self):
        less = SOME.within("size int", "byte", 2)
        self.assertIs(less <= SOME, True)
        self.assertIs(SOME <= less, False)
        self.assertIs(SOME <= SOME, True)
        self.assertIs(SOME >= less, True)
        self.assertIs(EMPTY <= less, True)
        self.assertIs(less <= EMPTY, False)
        self.assertIs(EMPTY <= EMPTY, True)
        self.assertIs(FREE <= SOME, False)
        self.assertIs(FREE.within("size int", "byte", 1) <= FREE.within("size long", "byte", 1), False)

    def test_other_kinds(self):
        for other in (Zone(LONG, INT), Zone(INT), Zone(INT, Kind("long", 2)), Zone(INT, LONG, SHORT)):
            for zone in (SOME, EMPTY):
                self.assertEqual(raised_by(lambda: zone & other), ("NoScale", None))
                self.assertEqual(raised_by(lambda: zone <= other), ("NoScale", None))


class Rings(unittest.TestCase):
    RING = [("byte", "align int", -4), ("align int", "size int", 0), ("size int", "size long", 0), ("size long", "byte", 3)]

    def setUp(self):
        self.nothing = SOME.within("byte", "align int", -4)

    def test_found(self):
        self.assertIsNone(SOME.ring())
        self.assertIsNone(FREE.ring())
        for zone in (EMPTY, self.nothing, self.nothing & EMPTY, SOME.within("byte", "byte", -7)):
            ring = zone.ring()
            self.assertIs(type(ring), list)
            self.assertTrue(zone.is_ring(ring))
            kept = list(ring)
            ring.clear()
            self.assertEqual(zone.ring(), kept)

    def test_turned_about(self):
        for at in range(4):
            turned = self.RING[at:] + self.RING[:at]
            self.assertIs(self.nothing.is_ring(turned), True)
            self.assertIs(self.nothing.is_ring(tuple(turned)), True)
            self.assertIs(self.nothing.is_ring(turned + turned), True)
            self.assertIs(self.nothing.is_ring(turned[:-1]), False)
            self.assertIs(self.nothing.is_ring(turned[::-1]), False)
        self.assertIs(SOME.is_ring(self.RING), False)

    def test_bounds_that_were_not_told(self):
        for at, bound in enumerate(self.RING):
            i, j, c = bound
            for other in ((i, j, c - 1), (i, j, c + 1), [i, j, c], (i, j), (i, j, c, c), (i, j, None), (None, j, c), (i, [], c)):
                self.assertIs(self.nothing.is_ring(self.RING[:at] + [other] + self.RING[at + 1:]), False)
        follows = [("byte", "size long", -4), ("size long", "byte", 3)]
        self.assertIs(self.nothing.is_ring(follows), False)

    def test_true_is_no_number(self):
        zone = FREE.within("size int", "byte", 1).within("byte", "size int", -2)
        self.assertIs(zone.is_ring([("size int", "byte", 1), ("byte", "size int", -2)]), True)
        self.assertIs(zone.is_ring([("size int", "byte", True), ("byte", "size int", -2)]), False)

    def test_all_told_bounds_count(self):
        zone = SOME.within("byte", "align int", -5).within("byte", "align int", -4)
        for first in (("byte", "align int", -5), ("byte", "align int", -4)):
            self.assertIs(zone.is_ring([first] + self.RING[1:]), True)
        zone = SOME.within("byte", "align int", -4).within("size long", "byte", 100)
        self.assertIs(zone.is_ring(self.RING), True)
        self.assertIs(zone.is_ring(self.RING[:3] + [("size long", "byte", 100)]), False)

    def test_rings_that_add_up_to_nothing_or_more(self):
        self.assertIs(EMPTY.is_ring([("byte", "size int", 0), ("size int", "byte", -1)]), True)
        zone = EMPTY.within("size int", "byte", 0)
        self.assertIs(zone.is_ring([("byte", "size int", 0), ("size int", "byte", 0)]), False)

    def test_any_value(self):
        for value in ANY:
            self.assertIs(self.nothing.is_ring(value), False)
            self.assertIs(self.nothing.is_ring([value]), False)
            self.assertIs(self.nothing.is_ring(self.RING + [value]), False)


class Walks(unittest.TestCase):
    def test_the_document(self):
        self.assertEqual([tuple(point.values()) for point in Zone(INT).walk(1)], [(0, 0), (1, 0), (1, 1)])

    def test_short_walks(self):
        self.assertEqual(list(FREE.walk(0)), [dict.fromkeys(FREE.scales, 0)])
        self.assertEqual(list(FREE.within("byte", "size int", -1).walk(0)), [])
        self.assertEqual(len(list(FREE.within("byte", "size int", -1).walk(1))), 6)
        self.assertEqual(list(EMPTY.walk(1000)), [])
        self.assertEqual([list(point) for point in FREE.walk(0)], [list(FREE.scales)])

    def test_long_walks_are_left_early(self):
        walk = Zone(INT, LONG, SHORT).walk(1000)
        self.assertEqual([tuple(next(walk).values()) for _ in range(3)], [(0, 0, 0, 0, 0, 0), (0, 0, 0, 0, 1, 0), (0, 0, 0, 0, 1, 1)])
        walk = FREE.within("byte", "align long", -999).walk(1000)
        self.assertEqual([tuple(next(walk).values()) for _ in range(2)], [(0, 0, 999, 999), (1, 0, 999, 999)])
        self.assertEqual(len(list(Zone(INT).within("byte", "align int", -995).walk(1000))), 21)
        self.assertEqual(list(Zone(INT).within("byte", "align int", -1001).walk(1000)), [])

    def test_points_beyond_the_walk(self):
        zone = FREE.within("align int", "size long", -3)
        self.assertEqual(list(zone.walk(2)), [])
        self.assertEqual(next(zone.walk(3)), {"size int": 0, "align int": 0, "size long": 3, "align long": 0})

    def test_each_point_belongs_to_the_caller(self):
        found = []
        for point in Zone(INT).walk(2):
            found.append(dict(point))
            point.clear()
        self.assertEqual(found, list(Zone(INT).walk(2)))

    def test_any_value(self):
        for value in ANY + [1001, 1000, 0]:
            expected = None if is_whole(value, 0, 1000) else ("BadBound", value)
            for zone in (FREE, EMPTY):
                self.assertTrue(same(raised_by(lambda: next(zone.walk(value), None)), expected))
        self.assertEqual(next(FREE.walk(most=3)), FREE.least())


if __name__ == "__main__":
    unittest.main()
