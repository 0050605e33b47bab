"""Points 22, 23 and 35: terms, how they are written, and what they are in a book."""

import random
import unittest

from anypads.forms import Form
from anypads.layout import Layout, packed_on
from anypads.machines import Machine
from anypads.parts import Byte, Kind, Overlay, Record, Row, Use
from anypads.terms import Term, align, end, form_in, number, packed, place, size, units_of, value
from anypads.zones import Zone
from tests.books import Shelf
from tests.drawn import drawn_part, drawn_zone, every_path, machines_in
from tests.values import ANY, GREAT, is_text_of, is_whole, raised_by, same

INT, LONG = Kind("int"), Kind("long", 3)
PAIR = Record([("x", Byte()), ("y", INT)])
BOOK = Shelf([INT, LONG], {
    "pair": PAIR,
    "q": Record([("head", Use("pair")), ("rows", Row(Use("pair"), 4)), ("last", LONG)]),
    "view": Overlay([("p", Use("pair")), ("raw", Byte() * 4)]),
    "other": Row(Use("view"), 3),
})
MACHINE = Machine([INT, LONG], {"int": (2, 2), "long": (3, 2)})
FREE = Zone(INT, LONG)
NAMED = [size, align, packed]
WITH_PATH = [place, end]
BIG = Row(Row(Row(Row(Kind("int", 8), 64), 64), 64), 1)


class Made(unittest.TestCase):
    def test_numbers(self):
        for n in (0, 1, 1000):
            self.assertEqual(str(number(n)), str(n))
        for n in (-1, 1001, GREAT):
            self.assertEqual(raised_by(number, n), ("BadBound", n))

    def test_any_values(self):
        for thing in ANY:
            self.assertTrue(same(raised_by(number, thing), None if is_whole(thing, 0, 1000) else ("BadBound", thing)))
            expected = None if is_text_of(thing, ["a"]) else ("BadName", thing)
            for call in NAMED:
                self.assertTrue(same(raised_by(call, thing), expected))
            for call in WITH_PATH:
                self.assertTrue(same(raised_by(call, thing, "x"), expected))
                fine = is_text_of(thing, ["a", "a.b", "0", "a.b.0"])
                expected_path = None if fine else ("NoPath", thing, 0)
                self.assertTrue(same(raised_by(call, "x", thing), expected_path))

    def test_names(self):
        for name in ("byte", "size", "notail", "", "abcdefghi", "A", "a b"):
            for call in NAMED:
                self.assertEqual(raised_by(call, name), ("BadName", name))
            for call in WITH_PATH:
                self.assertEqual(raised_by(call, name, None), ("BadName", name))

    def test_paths(self):
        for path in ("a", "a.b", "0", "10", "a.0.b.99999", "100"):
            self.assertEqual(str(place("p", path)), f"place p {path}")
            self.assertEqual(str(end("p", path)), f"end p {path}")
        for path, at in (
            ("", 0), (".", 0), ("a.", 1), ("a..b", 1), ("00", 0), ("a.01", 1), ("a.-1", 1), ("a. b", 1), ("a.byte", 1), ("a.b.X", 2),
            ("a.1a", 1), ("abcdefghi", 0), ("a.b.c.", 3), ("1 ", 0), ("size", 0),
        ):
            for call in WITH_PATH:
                self.assertEqual(raised_by(call, "p", path), ("NoPath", path, at))

    def test_by_name(self):
        self.assertEqual([number(n=3), size(name="p")], [number(3), size("p")])
        self.assertEqual([place(name="p", path="x"), end(path="x", name="p")], [place("p", "x"), end("p", "x")])
        self.assertEqual([align(name="p"), packed(name="p")], [align("p"), packed("p")])

    def test_the_class(self):
        for term in (number(1), size("p"), align("p"), packed("p"), place("p", "x"), end("p", "x"), size("p") + number(1), 2 * size("p")):
            self.assertIs(type(term), Term)
        self.assertEqual(Term.MOST, 64)


class Written(unittest.TestCase):
    def test_texts(self):
        for term, text in [
            (number(7), "7"), (size("p"), "size p"), (align("p"), "align p"), (packed("p"), "packed p"),
            (place("p", "a.0"), "place p a.0"), (end("p", "a.0"), "end p a.0"), (size("p") + number(0), "size p + 0"),
            (2 * size("p"), "2*(size p)"), (size("p") * 64 + number(1), "64*(size p) + 1"),
            (1 * (size("p") + 2 * align("p")), "1*(size p + 2*(align p))"),
            (size("p") + 2 * align("int") + number(0), "size p + 2*(align int) + 0"),
        ]:
            self.assertEqual(str(term), text)

    def test_alike(self):
        a, b, c = size("a"), align("b"), number(3)
        self.assertEqual((a + b) + c, a + (b + c))
        self.assertEqual(2 * a, a * 2)
        self.assertEqual(place("p", "x"), place("p", "x"))
        for one, other in [
            (a + b, b + a), (2 * (3 * a), 6 * a), (1 * a, a), (a + a, 2 * a), (2 * (a + b), 2 * a + 2 * b), (number(1) + number(2), c),
            (size("a"), size("b")), (size("a"), packed("a")), (place("p", "x"), end("p", "x")), (place("p", "x"), place("p", "y")),
            (a + number(0), a), (2 * (3 * a), 3 * (2 * a)), (2 * a + b, 2 * (a + b)),
        ]:
            self.assertNotEqual(one, other)
            self.assertEqual(one, one)

    def test_nothing_else_is_equal(self):
        for thing in ANY + ["3", 3, "size p"]:
            if not isinstance(thing, Term):
                self.assertIs(number(3) == thing, False)
                self.assertIs(size("p") != thing, True)

    def test_multiples(self):
        for n in (1, 2, 64):
            self.assertEqual(str(n * size("p")), f"{n}*(size p)")
        for n in (0, -1, 65, GREAT, -GREAT):
            self.assertEqual(raised_by(lambda: n * size("p")), ("BadBound", n))
            self.assertEqual(raised_by(lambda: size("p") * n), ("BadBound", n))

    def test_named(self):
        term = size("z") + 2 * (number(3) + place("b", "y.x") + 3 * packed("a")) + end("b", "q")
        self.assertEqual(term.named(), ("a", "b", "z"))
        self.assertEqual(number(4).named(), ())

    def test_terms_stay_as_they_are(self):
        term = size("p")
        term + number(1)
        2 * term
        self.assertEqual([str(term), term.named()], ["size p", ("p",)])

    def test_deep_terms(self):
        term = number(1)
        for _ in range(100):
            term = 2 * term
        self.assertEqual(value(BOOK, 3 * number(1) + 64 * (64 * number(2)), MACHINE), 3 + 2 * 4096)
        self.assertEqual([len(str(term)), raised_by(units_of, BOOK, term)], [401, ("TooLarge", "units", 1000000)])


class InABook(unittest.TestCase):
    def test_units(self):
        # pair: 1 + 1 and 2; q: 4 and 1, 16 and 1, 3 and 1; view: 4 and 1; other: 15.
        for term, units in [
            (number(0), 0), (number(1000), 1000), (size("int"), 1), (size("long"), 3), (align("long"), 1), (align("q"), 1),
            (size("pair"), 4), (packed("q"), 26), (place("q", "head"), 26), (end("q", "rows.3.y"), 26), (size("view"), 5),
            (size("other"), 15), (size("pair") + align("q") + number(7), 12), (3 * (size("pair") + 2 * size("long")), 30),
        ]:
            self.assertEqual(units_of(BOOK, term), units)

    def test_values(self):
        # pair: x 0, y 4, size 8; q: head 0, rows 8, last 40, size 64.
        for term, expected in [
            (number(5), 5), (size("int"), 4), (align("int"), 4), (size("long"), 24), (align("long"), 4), (size("pair"), 8),
            (packed("pair"), 8), (place("pair", "y"), 4), (end("pair", "x"), 1), (size("q"), 64), (packed("q"), 64),
            (place("q", "rows.2.y"), 28), (end("q", "rows"), 40), (place("q", "last"), 40), (size("view"), 8), (size("other"), 24),
            (place("other", "2.p.y"), 20), (2 * size("pair") + number(1), 17), (3 * (size("int") + 2 * align("int")), 36),
        ]:
            self.assertEqual(value(BOOK, term, MACHINE), expected, str(term))

    def test_packed_values(self):
        book = Shelf([INT], {"r": Record([("a", Byte()), ("b", INT), ("c", Byte())])})
        machine = Machine([INT], {"int": (2, 2)})
        self.assertEqual([value(book, size("r"), machine), value(book, packed("r"), machine)], [12, 8])

    def test_forms(self):
        steps = FREE.within("byte", "align int", -2).within("size int", "align long", -3)
        for zone, term, expected in [
            (FREE, number(5), "5*byte"), (FREE, number(0), "0"), (FREE, size("long"), "3*size long"), (FREE, align("pair"), "1*align int"),
            (FREE, place("pair", "y"), "1*align int"), (FREE, end("pair", "y"), "1*align int + 1*size int"), (FREE, align("q"), None),
            (FREE, size("pair") + size("q"), None), (FREE, place("q", "rows.1.x"), "2*align int + 2*size int"),
            (FREE, 2 * (size("pair") + number(3)) + number(1), "2*align int + 7*byte + 2*size int"),
            (FREE, packed("pair"), "1*align int + 1*size int"), (FREE, packed("q"), None), (FREE, 3 * align("q") + number(1), None),
            (steps, align("q"), "1*align long"), (steps, packed("q"), None), (steps, place("q", "last"), None),
            (steps.within("size int", "align int", 1).within("size int", "align long", -5), place("q", "last"), "1*align long"),
            (FREE, place("view", "p"), "0"), (FREE, end("other", "0.raw"), "4*byte"),
        ]:
            found = form_in(BOOK, term, zone)
            self.assertEqual(None if found is None else str(found), expected, str(term))
            self.assertIn(type(found), (Form, type(None)))

    def test_by_name(self):
        self.assertEqual(units_of(book=BOOK, term=number(2)), 2)
        self.assertEqual(value(book=BOOK, term=number(2), machine=MACHINE), 2)
        self.assertEqual(form_in(book=BOOK, term=number(2), zone=FREE), Form.of("byte", 2))

    def test_drawn(self):
        """A form has on each machine of its zone the value of its term."""
        rng = random.Random(31)
        for _ in range(60):
            kinds = [INT, LONG]
            zone = drawn_zone(rng, kinds, 2)
            part = Record([("w", drawn_part(rng, kinds, 2)), ("x", drawn_part(rng, kinds, 1))])
            book = Shelf(kinds, {"p": part, "q": Row(Use("p"), 2)})
            paths = list(every_path(part))
            terms = [size("p"), align("p"), packed("p"), size("q"), size("int"), number(9), place("p", rng.choice(paths)), end("q", "1.x")]
            term = rng.choice(terms) + rng.randint(1, 5) * (rng.choice(terms) + rng.choice(terms))
            form = form_in(book, term, zone)
            for machine in machines_in(zone, 2):
                told = value(book, term, machine)
                if form is not None:
                    self.assertEqual(form(machine), told)
            self.assertEqual(value(book, packed("p"), machine), packed_on(Layout(machine), part))


class Refused(unittest.TestCase):
    OTHER = Machine([LONG, INT], {"int": (2, 2), "long": (3, 2)})

    def calls(self, term, book=BOOK):
        return [(units_of, book, term), (value, book, term, MACHINE), (form_in, book, term, FREE)]

    def test_names_and_paths(self):
        for term, error in [
            (size("none"), ("NoName", "none")), (align("none"), ("NoName", "none")), (packed("none"), ("NoName", "none")),
            (place("none", "x"), ("NoName", "none")), (place("pair", "z"), ("NoPath", "z", 0)), (end("pair", "x.0"), ("NoPath", "x.0", 1)),
            (place("q", "rows.4"), ("NoPath", "rows.4", 1)), (end("int", "x"), ("NoPath", "x", 0)), (place("q", "head.y.z"), ("NoPath", "head.y.z", 2)),
            (packed("view"), ("NotRecord", "view")), (packed("int"), ("NotRecord", "int")), (packed("other"), ("NotRecord", "other")),
        ]:
            for told in (term, number(3) + 2 * (align("int") + 5 * term)):
                for call in self.calls(told):
                    self.assertEqual(raised_by(*call), error)

    def test_from_the_left(self):
        for term, error in [
            (size("zz") + size("aa"), ("NoName", "zz")), (2 * place("pair", "z") + size("aa"), ("NoPath", "z", 0)),
            (size("pair") + 2 * (packed("view") + size("aa")) + place("pair", "z"), ("NotRecord", "view")),
            (number(3) + size("aa") + 3 * packed("view"), ("NoName", "aa")),
        ]:
            for call in self.calls(term):
                self.assertEqual(raised_by(*call), error)

    def test_units(self):
        book = Shelf([Kind("int", 8), LONG], {"big": BIG})
        machine = Machine(book.kinds, {"int": (0, 0), "long": (0, 0)})
        # 64 * 64 * 64 * 8 is more than 2,000,000.
        for term in (size("big"), place("big", "0.0"), number(1) + end("big", "0"), 64 * (64 * number(245))):
            self.assertEqual(raised_by(units_of, book, term), ("TooLarge", "units", 1000000))
            self.assertEqual(raised_by(value, book, term, machine), ("TooLarge", "units", 1000000))
            self.assertEqual(raised_by(form_in, book, term, Zone.of(book.kinds)), ("TooLarge", "units", 1000000))
        self.assertEqual(units_of(book, align("big")), 1)
        self.assertEqual(units_of(BOOK, 50 * (20 * number(1000))), 1000000)
        self.assertEqual(raised_by(units_of, BOOK, 50 * (20 * number(1000)) + align("int")), ("TooLarge", "units", 1000000))
        self.assertEqual(raised_by(units_of, book, size("big") + size("aa")), ("NoName", "aa"))

    def test_other_machines_come_first(self):
        for machine in (self.OTHER, Machine([INT], {"int": (0, 0)}), Machine([INT, Kind("long")], {"int": (2, 2), "long": (3, 2)})):
            for term in (number(1), size("aa"), 64 * (64 * number(245))):
                self.assertEqual(raised_by(value, BOOK, term, machine), ("NoMachine", None))


if __name__ == "__main__":
    unittest.main()
