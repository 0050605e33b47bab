"""Zones against all their points with small numbers."""

import itertools
import random
import unittest

from anypads.machines import Machine
from anypads.parts import Kind
from anypads.zones import Zone
from tests.values import raised_by

KINDS = [Kind("a"), Kind("b", 2), Kind("c")]
# How many kinds, the greatest number of a bound, of how many zones; all ends stand below `farthest`.
SETS = [(1, 3, 150), (2, 2, 60), (3, 1, 12)]


def farthest(many, most):
    return 2 * many * most


def drawn_bounds(rng, many, most):
    names = ["byte"] + list(Zone.of(KINDS[:many]).scales)
    return [(rng.choice(names), rng.choice(names), rng.randint(-most, most)) for _ in range(rng.randint(1, 2 + many))]


def zone_of(many, bounds):
    zone = Zone.of(KINDS[:many])
    for bound in bounds:
        zone = zone.within(*bound)
    return zone


def all_points(many, most):
    pairs = [(size, align) for size in range(most + 1) for align in range(size + 1)]
    return [sum(point, ()) for point in itertools.product(pairs, repeat=many)]


def kept(points, zone, bounds):
    at = {name: index for index, name in enumerate(zone.order)}
    told = [(at[i], at[j], c) for i, j, c in bounds]
    found = []
    for point in points:
        numbers = (0,) + point
        if all(numbers[i] - numbers[j] <= c for i, j, c in told):
            found.append(point)
    return found


def all_drawn():
    """Zones, how many kinds they have, what their numbers reach, their points up to this, and all points."""
    rng = random.Random(7)
    found = []
    for many, most, times in SETS:
        top = farthest(many, most) + 1
        points = all_points(many, top)
        for _ in range(times):
            bounds = drawn_bounds(rng, many, most)
            zone = zone_of(many, bounds)
            found.append((zone, many, top, kept(points, zone, bounds), points))
    return found


class AllPoints(unittest.TestCase):
    @classmethod
    def setUpClass(cls):
        cls.drawn = all_drawn()

    def test_emptiness_and_corners(self):
        empty = 0
        for zone, many, top, points, _ in self.drawn:
            self.assertEqual(bool(zone), bool(points))
            if not points:
                empty += 1
                self.assertTrue(zone.is_ring(zone.ring()))
                self.assertEqual(raised_by(zone.least), ("Barred",))
                continue
            self.assertIsNone(zone.ring())
            least = tuple(zone.least().values())
            self.assertEqual(least, tuple(min(point[at] for point in points) for at in range(2 * many)))
            self.assertIn(least, points)
            self.assertEqual(least, min(points, key=lambda point: (max(point), point)))
        self.assertGreater(empty, 20)

    def test_differences(self):
        for zone, many, top, points, _ in self.drawn:
            if not points:
                continue
            below = [point for point in points if max(point) < top]
            for i, j in itertools.product(range(2 * many + 1), repeat=2):
                told = zone[zone.order[i], zone.order[j]]
                found = max(((0,) + point)[i] - ((0,) + point)[j] for point in points)
                nearer = max(((0,) + point)[i] - ((0,) + point)[j] for point in below)
                if told is None:
                    self.assertEqual(found, nearer + 1)
                else:
                    self.assertEqual([told, told], [found, nearer])
            expected = {scale: zone[scale, "byte"] for scale in zone.scales}
            self.assertEqual(zone.greatest(), expected)
            table = {(i, j): c for i, j, c in zone.bounds()}
            self.assertEqual(len(table), len(list(zone.bounds())))
            for i, j in itertools.permutations(zone.order, 2):
                self.assertEqual(table.get((i, j)), zone[i, j])

    def test_points_and_machines(self):
        rng = random.Random(8)
        for zone, many, top, points, every in self.drawn:
            inside = set(points)
            for point in rng.sample(every, min(30, len(every))) + points[:5]:
                self.assertIs(dict(zip(zone.scales, point)) in zone, point in inside)
                exponents = {kind.name: pair for kind, pair in zip(zone.kinds, zip(point[0::2], point[1::2]))}
                self.assertIs(Machine(zone.kinds, exponents) in zone, point in inside)

    def test_walks(self):
        for zone, many, top, points, _ in self.drawn:
            for far in (0, 1, 2, top):
                expected = [point for point in points if max(point) <= far]
                expected.sort(key=lambda point: (max(point), point))
                walked = list(zone.walk(far))
                self.assertEqual([tuple(point.values()) for point in walked], expected)
                self.assertTrue(all(tuple(point) == zone.scales for point in walked))

    def test_pairs_of_zones(self):
        rng = random.Random(9)
        for many, most, times in SETS:
            points = all_points(many, farthest(many, most))
            found = []
            for _ in range(times // 3):
                bounds = drawn_bounds(rng, many, most)
                zone = zone_of(many, bounds)
                found.append((zone, set(kept(points, zone, bounds)), bounds))
            for (one, inside, told), (other, others, more) in itertools.product(found, repeat=2):
                both = one & other
                self.assertEqual(bool(both), bool(inside & others) or bool(zone_of(many, told + more)))
                self.assertEqual(both, zone_of(many, told + more))
                if inside != others:
                    self.assertNotEqual(one, other)
                self.assertEqual(one == other, (one <= other) and (other <= one))
                if one <= other:
                    self.assertTrue(inside <= others)
                # A zone that has points outside has one with small numbers.
                elif bool(one):
                    self.assertTrue(any(bool(one & zone_of(many, []).sides(*bound)[1]) for bound in more))

    def test_sides_part_a_zone(self):
        rng = random.Random(10)
        for zone, many, top, points, _ in self.drawn:
            i, j, c = drawn_bounds(rng, many, 3)[0]
            inside, outside = zone.sides(i, j, c)
            at = {name: index for index, name in enumerate(zone.order)}
            for point in points[:40]:
                numbers = (0,) + point
                named = dict(zip(zone.scales, point))
                holds = numbers[at[i]] - numbers[at[j]] <= c
                self.assertEqual([named in inside, named in outside], [holds, not holds])


if __name__ == "__main__":
    unittest.main()
