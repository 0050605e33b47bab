"""Point 21: alignments, sizes and places of parts in a zone."""

import random
import unittest

from anypads.forms import Form
from anypads.layout import Layout, packed_on
from anypads.parts import Byte, Kind, Overlay, Record, Row, Use, units
from anypads.settle import align_scale, end_form, packed_form, place_form, size_form
from anypads.zones import Zone
from tests import plainly
from tests.drawn import KINDS, drawn_part, drawn_zone, every_path, exact_zone, machines_in
from tests.values import ANY, raised_by

INT, LONG = Kind("int"), Kind("long", 3)
FREE = Zone(INT, LONG)
# Each int is aligned above a byte, each long above an int.
STEPS = FREE.within("byte", "align int", -3).within("size int", "align long", -3)
NOWHERE = FREE.within("byte", "byte", -1)
MIXED = Record([("tag", Byte()), ("x", INT), ("y", LONG), ("rest", Row(Byte(), 3))])
CALLS = [align_scale, size_form, packed_form]
PATH_CALLS = [place_form, end_form]


def text(form):
    return None if form is None else str(form)


class Alignments(unittest.TestCase):
    def test_by_hand(self):
        for zone in (FREE, STEPS):
            self.assertEqual(align_scale(zone, Byte()), "byte")
            self.assertEqual(align_scale(zone, INT), "align int")
            self.assertEqual(align_scale(zone, Row(Row(INT, 2), 3)), "align int")
            self.assertEqual(align_scale(zone, Record([("a", Byte()), ("b", INT), ("c", INT * 2)])), "align int")
            self.assertEqual(align_scale(zone, Overlay([("a", INT), ("b", Byte())])), "align int")
        self.assertEqual(align_scale(STEPS, MIXED), "align long")
        self.assertIsNone(align_scale(FREE, MIXED))

    def test_the_first_of_like_scales(self):
        zone = FREE.within("align int", "align long", 0).within("align long", "align int", 0)
        self.assertEqual(align_scale(zone, Record([("a", INT), ("b", LONG)])), "align int")
        self.assertEqual(align_scale(zone, Overlay([("a", LONG), ("b", INT)])), "align long")
        one = FREE.within("align int", "byte", 0)
        self.assertEqual(align_scale(one, Record([("a", Byte()), ("b", INT)])), "byte")

    def test_an_alignment_within_that_is_not_settled(self):
        inner = Record([("a", INT), ("b", LONG)])
        self.assertIsNone(align_scale(FREE, Row(inner, 2)))
        self.assertIsNone(align_scale(FREE, Overlay([("a", inner)])))


class Sizes(unittest.TestCase):
    def look(self, zone, part, expected):
        self.assertEqual(text(size_form(zone, part)), expected)

    def test_by_hand(self):
        self.look(FREE, Byte(), "1*byte")
        self.look(FREE, INT, "1*size int")
        self.look(FREE, LONG, "3*size long")
        self.look(FREE, Row(LONG, 5), "15*size long")
        self.look(FREE, Record([("a", INT)]), "1*size int")
        self.look(FREE, Record([("a", Byte()), ("b", Byte() * 4)]), "5*byte")
        self.look(FREE, Record([("a", Byte()), ("b", INT)]), "1*align int + 1*size int")
        self.look(STEPS, MIXED, "2*align long + 3*size long")
        self.look(STEPS, Row(MIXED, 2), "4*align long + 6*size long")

    def test_a_size_that_is_not_settled(self):
        self.look(FREE, MIXED, None)
        self.look(FREE, Row(MIXED, 1), None)
        self.look(FREE, Record([("a", Byte()), ("b", Byte()), ("c", INT)]), None)
        # The end is settled, the alignment is not.
        self.look(FREE, Record([("a", LONG), ("b", INT)]), None)

    def test_overlays(self):
        self.look(FREE, Overlay([("a", Byte()), ("b", INT)]), "1*size int")
        self.look(FREE, Overlay([("a", LONG)]), "3*size long")
        self.look(STEPS, Overlay([("a", LONG), ("b", INT), ("c", Byte() * 8)]), "3*size long")
        self.look(FREE, Overlay([("a", LONG), ("b", INT)]), None)
        self.look(STEPS, Overlay([("a", Byte() * 8), ("b", INT)]), "1*size int")
        self.look(STEPS, Overlay([("a", Byte() * 9), ("b", INT)]), None)
        # The first one of two that are alike; its size is rounded up to the alignment of the other.
        self.look(STEPS, Overlay([("a", Record([("x", INT), ("y", Byte())])), ("b", INT)]), "1*align int + 1*size int")
        alike = FREE.within("size int", "byte", 0)
        self.look(alike, Overlay([("a", INT), ("b", Byte())]), "1*size int")
        self.look(alike, Overlay([("a", Byte()), ("b", INT)]), "1*byte")

    def test_overlays_within_overlays(self):
        inner = Overlay([("a", INT), ("b", Byte() * 3)])
        self.look(STEPS, Overlay([("a", Overlay([("x", inner), ("y", Byte())])), ("b", Byte() * 2)]), "1*size int")
        self.look(STEPS, Record([("a", Byte()), ("b", inner)]), "1*align int + 1*size int")
        self.look(FREE, Overlay([("a", Overlay([("x", inner)]))]), None)


class Places(unittest.TestCase):
    def look(self, zone, part, path, place, end):
        self.assertEqual([text(place_form(zone, part, path)), text(end_form(zone, part, path))], [place, end], path)

    def test_fields(self):
        self.look(STEPS, MIXED, "tag", "0", "1*byte")
        self.look(STEPS, MIXED, "x", "1*align int", "1*align int + 1*size int")
        self.look(STEPS, MIXED, "y", "1*align long", "1*align long + 3*size long")
        self.look(STEPS, MIXED, "rest", "1*align long + 3*size long", "1*align long + 3*byte + 3*size long")
        self.look(STEPS, MIXED, "rest.2", "1*align long + 2*byte + 3*size long", "1*align long + 3*byte + 3*size long")

    def test_only_what_is_asked_is_needed(self):
        self.look(FREE, MIXED, "tag", "0", "1*byte")
        self.look(FREE, MIXED, "x", "1*align int", "1*align int + 1*size int")
        self.look(FREE, MIXED, "y", None, None)
        self.look(FREE, MIXED, "rest", None, None)

    def test_what_has_the_place_nothing(self):
        # Neither the size nor the alignment of MIXED is settled here.
        part = Record([("a", Row(MIXED, 3)), ("b", MIXED)])
        self.look(FREE, part, "a", "0", None)
        self.look(FREE, part, "a.0", "0", None)
        self.look(FREE, part, "a.0.x", "1*align int", "1*align int + 1*size int")
        self.look(FREE, part, "a.1", None, None)
        self.look(FREE, part, "a.1.x", None, None)
        self.look(FREE, part, "b", None, None)
        view = Overlay([("p", MIXED), ("q", Row(MIXED, 2)), ("r", Byte())])
        for path in ("p", "q", "q.0"):
            self.look(FREE, view, path, "0", None)
        self.look(FREE, view, "r", "0", "1*byte")
        view = Overlay([("p", MIXED)])
        self.look(FREE, Row(view, 2), "0.p.tag", "0", "1*byte")
        self.look(FREE, Row(view, 2), "1", None, None)

    def test_rows(self):
        self.look(FREE, Row(LONG, 4), "3", "9*size long", "12*size long")
        self.look(FREE, Row(Row(INT, 4), 2), "1.3", "7*size int", "8*size int")
        self.look(FREE, Row(Byte(), 64), "63", "63*byte", "64*byte")

    def test_places_along_a_path_are_added(self):
        part = Record([("x", INT), ("rows", Row(Record([("y", INT), ("z", INT)]), 2))])
        self.look(FREE, part, "rows.1.z", "4*size int", "5*size int")
        self.look(STEPS, Record([("a", Byte()), ("b", part)]), "b.rows.0.y", "1*align int + 1*size int", "1*align int + 2*size int")

    def test_the_document(self):
        long = Kind("long")
        zone = Zone.of([long]).within("byte", "align long", -1)
        part = Record([("tag", Byte()), ("more", Byte()), ("value", long)])
        self.assertEqual([str(place_form(zone, part, "value")), place_form(Zone.of([long]), part, "value")], ["1*align long", None])


class Packed(unittest.TestCase):
    def test_by_hand(self):
        for zone, part, expected in [
            (FREE, Record([("a", INT)]), "1*size int"), (FREE, Record([("a", INT), ("b", INT * 2)]), "3*size int"),
            (STEPS, Record([("a", INT), ("b", Byte()), ("c", INT), ("d", Byte())]), "1*align int + 2*size int"),
            (STEPS, MIXED, "1*align long + 3*size long"), (FREE, MIXED, None), (FREE, Record([("a", Byte() * 2), ("b", INT)]), None),
        ]:
            self.assertEqual(text(packed_form(zone, part)), expected)

    def test_it_needs_no_places(self):
        part = Record([("a", Byte() * 2), ("b", INT), ("c", Byte() * 2)])
        zone = FREE.within("byte", "align int", -2).within("align int", "byte", 2)
        self.assertEqual([text(packed_form(zone, part)), text(size_form(zone, part))], ["4*byte + 1*size int", "2*align int + 1*size int"])

    def test_no_records(self):
        for part in (Byte(), INT, Row(MIXED, 2), Overlay([("a", MIXED)])):
            self.assertEqual(raised_by(packed_form, FREE, part), ("NotRecord", None))
            self.assertEqual(raised_by(packed_form, NOWHERE, part), ("NotRecord", None))


class Errors(unittest.TestCase):
    def test_uses_come_first(self):
        part = Record([("a", Kind("other")), ("b", Use("q")), ("c", Use("p") * 2)])
        for zone in (FREE, NOWHERE):
            for call in CALLS:
                self.assertEqual(raised_by(call, zone, part), ("Unresolved", "p"))
                self.assertEqual(raised_by(call, zone, Use("p")), ("Unresolved", "p"))
            for call in PATH_CALLS:
                self.assertEqual(raised_by(call, zone, part, "z"), ("Unresolved", "p"))

    def test_kinds_of_the_zone(self):
        for part in (Record([("a", Kind("z")), ("b", Kind("int", 2))]), Record([("a", Kind("int", 2)), ("b", INT)])):
            for zone in (FREE, NOWHERE):
                for call in CALLS:
                    self.assertEqual(raised_by(call, zone, part), ("NoScale", "size int"))
                for call in PATH_CALLS:
                    self.assertEqual(raised_by(call, zone, part, "z"), ("NoScale", "size int"))
        self.assertEqual(raised_by(packed_form, FREE, Kind("z")), ("NoScale", "size z"))

    def test_paths(self):
        for path, at in (("", 0), ("z", 0), ("x.y", 1), ("rest.3", 1), ("rest.00", 1), ("rest.1.0", 2)):
            for zone in (FREE, NOWHERE):
                for call in PATH_CALLS:
                    self.assertEqual(raised_by(call, zone, MIXED, path), ("NoPath", path, at))
        for value in ANY:
            if value != "a":
                self.assertEqual(raised_by(place_form, FREE, MIXED, value), ("NoPath", value, 0))

    def test_empty_zones(self):
        for call in CALLS:
            self.assertEqual(raised_by(call, NOWHERE, MIXED), ("Barred",))
        for call in PATH_CALLS:
            self.assertEqual(raised_by(call, NOWHERE, MIXED, "tag"), ("Barred",))

    def test_by_name(self):
        self.assertEqual(align_scale(zone=STEPS, part=MIXED), "align long")
        self.assertEqual(size_form(zone=FREE, part=INT), Form.of("size int"))
        self.assertEqual(place_form(zone=FREE, part=MIXED, path="tag"), end_form(zone=FREE, part=Row(INT, 2), path="1") * 0)
        self.assertEqual(packed_form(zone=FREE, record=Record([("a", INT)])), Form.of("size int"))


class Drawn(unittest.TestCase):
    def test_against_the_words(self):
        rng = random.Random(11)
        told = {True: 0, False: 0}
        for _ in range(400):
            kinds = KINDS[:rng.randint(1, 3)]
            zone = exact_zone(rng, kinds, 4, 6) if rng.random() < 0.3 else drawn_zone(rng, kinds)
            part = drawn_part(rng, kinds, rng.randint(1, 3), 1)
            found = [align_scale(zone, part), size_form(zone, part)]
            expected = [plainly.settled(plainly.align, zone, part), plainly.settled(plainly.size, zone, part)]
            if isinstance(part, Record):
                found.append(packed_form(zone, part))
                expected.append(plainly.settled(plainly.packed, zone, part))
            paths = list(every_path(part))
            for path in rng.sample(paths, min(6, len(paths))):
                found += [place_form(zone, part, path), end_form(zone, part, path)]
                expected += [plainly.settled(plainly.place, zone, part, path), plainly.settled(plainly.end, zone, part, path)]
            self.assertEqual(found, expected, (str(zone), str(part)))
            for one in found:
                told[one is None] += 1
        self.assertGreater(min(told.values()), 400)

    def test_on_machines(self):
        """What is settled has on each machine of the zone the value that the layout has there."""
        rng = random.Random(12)
        told = 0
        for _ in range(150):
            kinds = KINDS[:rng.randint(1, 2)]
            zone = drawn_zone(rng, kinds, 2)
            part = drawn_part(rng, kinds, rng.randint(1, 3), 1)
            paths = list(every_path(part))
            paths = rng.sample(paths, min(4, len(paths)))
            scale, whole = align_scale(zone, part), size_form(zone, part)
            small = packed_form(zone, part) if isinstance(part, Record) else None
            forms = [(path, place_form(zone, part, path), end_form(zone, part, path)) for path in paths]
            for machine in machines_in(zone, 3):
                if scale is not None:
                    self.assertEqual(2 ** machine[scale], machine.align(part))
                if whole is not None:
                    self.assertEqual(whole(machine), machine.size(part))
                if small is not None:
                    self.assertEqual(small(machine), packed_on(Layout(machine), part))
                for path, place, end in forms:
                    if place is not None:
                        self.assertEqual(place(machine), machine.place(part, path))
                    if end is not None:
                        told += 1
                        self.assertEqual(end(machine), machine.end(part, path))
        self.assertGreater(told, 1000)

    def test_where_all_is_settled(self):
        """Differences that are exact or above the units of the part settle all of it."""
        rng = random.Random(13)
        for _ in range(200):
            kinds = KINDS[:rng.randint(1, 3)]
            part = drawn_part(rng, kinds, rng.randint(1, 3), 1)
            zone = exact_zone(rng, kinds, 12, units(part).bit_length())
            self.assertIsNotNone(align_scale(zone, part))
            self.assertIsNotNone(size_form(zone, part))
            for path in every_path(part):
                self.assertIsNotNone(end_form(zone, part, path))
            if isinstance(part, Record):
                self.assertIsNotNone(packed_form(zone, part))


if __name__ == "__main__":
    unittest.main()
