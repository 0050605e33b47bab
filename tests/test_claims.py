"""Points 24 and 35: claims, how they are written, and what they are in a book."""

import unittest

from anypads.claims import (
    Claim, at_most, holds, least_order, less, no, no_gap, no_tail, plain, reach, same, stands_in, told, yes,
)
from anypads.machines import Machine
from anypads.parts import Byte, Kind, Overlay, Record, Row, Use
from anypads.terms import Term, align, end, number, packed, place, size
from anypads.zones import Zone
from tests.books import Shelf
from tests.values import ANY, is_text_of, raised_by

INT, LONG = Kind("int"), Kind("long", 3)
PAIR = Record([("x", Byte()), ("y", INT)])
BOOK = Shelf([INT, LONG], {
    "pair": PAIR,
    "q": Record([("head", Use("pair")), ("rows", Row(Use("pair"), 4)), ("last", LONG)]),
    "view": Overlay([("p", Use("pair")), ("raw", Byte() * 4)]),
    "short": Record([("x", Byte())]),
    "swapped": Record([("y", INT), ("x", Byte())]),
    "unlike": Record([("x", INT), ("y", INT)]),
    "more": Record([("x", Byte()), ("z", Byte()), ("y", INT)]),
    "deep": Record([("a", Use("pair")), ("b", Overlay([("c", Use("pair")), ("d", Byte())])), ("e", Row(Use("pair"), 2))]),
})
MACHINE = Machine([INT, LONG], {"int": (2, 2), "long": (3, 2)})
FREE = Zone(INT, LONG)
COMPARED = [at_most, less, same]
SORTS = [no_gap("pair", "y"), no_tail("pair"), least_order("pair"), stands_in("more", "pair")]
ONE, OTHER = same(size("pair"), number(8)), less(align("int"), size("long"))


class Made(unittest.TestCase):
    def test_comparisons(self):
        for call in COMPARED:
            for value in ANY:
                fine = isinstance(value, Term)
                self.assertEqual(raised_by(call, value, number(1)), None if fine else ("NoTerm", 0))
                self.assertEqual(raised_by(call, number(1), value), None if fine else ("NoTerm", 1))
                self.assertEqual(raised_by(call, None, value), ("NoTerm", 0))
            self.assertEqual(call(one=number(1), other=number(2)), call(number(1), number(2)))

    def test_names(self):
        for value in ANY + ["byte", "leaf", "abcdefghi"]:
            expected = None if is_text_of(value, ["a"]) else ("BadName", value)
            for call in (no_tail, least_order):
                self.assertEqual(raised_by(call, value), expected)
            self.assertEqual(raised_by(stands_in, value, None), expected or ("BadName", None))
            self.assertEqual(raised_by(stands_in, "p", value), expected)
            self.assertEqual(raised_by(no_gap, value, None), expected or ("NoPath", None, 0))
        self.assertEqual([no_tail(name="p"), stands_in(other="p", one="q")], [no_tail("p"), stands_in("q", "p")])
        self.assertEqual([least_order(name="p"), no_gap(path="x", name="q")], [least_order("p"), no_gap("q", "x")])

    def test_paths(self):
        for path, at in (("", 0), ("a..b", 1), ("a.01", 1), ("a.b.Size", 2), ("size", 0), (None, 0), (("a",), 0), (0, 0)):
            self.assertEqual(raised_by(no_gap, "p", path), ("NoPath", path, at))
        self.assertIsNone(raised_by(no_gap, "p", "a.0.b.12"))

    def test_the_class(self):
        for claim in SORTS + [ONE, OTHER, yes(), no(), ONE & OTHER, ONE | OTHER, ~ONE]:
            self.assertIs(type(claim), Claim)
            self.assertIs(Claim.is_claim(claim), True)
        for value in ANY:
            self.assertIs(Claim.is_claim(value), isinstance(value, Claim))
        self.assertIs(Claim.is_claim(thing=number(1)), False)


class Written(unittest.TestCase):
    def test_texts(self):
        for claim, text in [
            (yes(), "yes"), (no(), "no"), (at_most(size("p"), number(4)), "size p <= 4"), (OTHER, "align int < size long"),
            (same(size("int") + number(0), 2 * align("a")), "size int + 0 = 2*(align a)"), (no_gap("p", "a.0"), "nogap p a.0"),
            (no_tail("p"), "notail p"), (stands_in("p", "q"), "p for q"), (least_order("p"), "leastorder p"),
            (~at_most(size("p"), number(4)), "not (size p <= 4)"), (yes() & no(), "(yes) and (no)"), (yes() | no(), "(yes) or (no)"),
            (~(yes() & no_tail("p")) | ~~no(), "(not ((yes) and (notail p))) or (not (not (no)))"),
            (yes() & yes() & no(), "((yes) and (yes)) and (no)"), (yes() & (yes() & no()), "(yes) and ((yes) and (no))"),
        ]:
            self.assertEqual(str(claim), text)

    def test_alike(self):
        for claim in SORTS + [ONE, ONE & OTHER, ONE | OTHER, ~ONE, yes(), no()]:
            self.assertEqual(claim, claim)
            self.assertNotEqual(claim, claim & yes())
        self.assertEqual(same(size("p"), number(4)), same(size("p"), number(4)))
        self.assertEqual(~(ONE & OTHER), ~(ONE & OTHER))
        for one, other in [
            (yes(), no()), (yes() & yes(), yes()), (ONE & OTHER, OTHER & ONE), (ONE & OTHER, ONE | OTHER), (~~ONE, ONE), (~yes(), no()),
            (same(size("a"), size("b")), same(size("b"), size("a"))), (same(size("a"), size("b")), at_most(size("a"), size("b"))),
            (less(size("a"), size("b")), at_most(size("a"), size("b"))), (stands_in("a", "b"), stands_in("b", "a")),
            (no_tail("a"), least_order("a")), (no_tail("a"), no_tail("b")), (no_gap("a", "x"), no_gap("a", "y")),
            ((ONE & OTHER) & yes(), ONE & (OTHER & yes())), (same(2 * size("a"), number(1)), same(size("a") + size("a"), number(1))),
        ]:
            self.assertNotEqual(one, other)

    def test_nothing_else_is_equal(self):
        for value in ANY + ["yes", True]:
            if not isinstance(value, Claim):
                self.assertIs(yes() == value, False)
                self.assertIs(ONE != value, True)

    def test_named(self):
        for claim, names in [
            (yes(), ()), (ONE, ("pair",)), (OTHER, ("int", "long")), (no_gap("z", "a.b"), ("z",)), (no_tail("z"), ("z",)),
            (stands_in("z", "b"), ("b", "z")), (least_order("c"), ("c",)), (~(ONE | OTHER) & stands_in("a", "pair"), ("a", "int", "long", "pair")),
            (same(number(1), 2 * (place("b", "x") + end("a", "y"))), ("a", "b")),
        ]:
            self.assertEqual(claim.named(), names)

    def test_claims_stay_as_they_are(self):
        claim = no_tail("p")
        claim & yes(), claim | yes(), ~claim
        self.assertEqual(str(claim), "notail p")


class Plain(unittest.TestCase):
    def look(self, claim, expected):
        self.assertEqual(plain(BOOK, claim), expected, str(plain(BOOK, claim)))

    def test_comparisons_stay(self):
        for claim in (ONE, OTHER, yes(), no(), ~(ONE & OTHER) | yes()):
            self.look(claim, claim)
        self.assertEqual(plain(book=BOOK, claim=ONE), ONE)

    def test_no_gap(self):
        self.look(no_gap("pair", "y"), same(place("pair", "y"), end("pair", "x")))
        self.look(no_gap("q", "rows.3.y"), same(place("q", "rows.3.y"), end("q", "rows.3.x")))
        self.look(no_gap("q", "last"), same(place("q", "last"), end("q", "rows")))
        self.look(no_gap("view", "p.y"), same(place("view", "p.y"), end("view", "p.x")))
        for name, path in (("pair", "x"), ("q", "rows.3"), ("q", "rows.3.x"), ("view", "raw"), ("view", "p"), ("view", "raw.3"), ("q", "head")):
            self.look(no_gap(name, path), yes())

    def test_no_tail_and_least_order(self):
        self.look(no_tail("pair"), same(size("pair"), end("pair", "y")))
        self.look(no_tail("short"), same(size("short"), end("short", "x")))
        self.look(least_order("q"), same(size("q"), packed("q")))

    def test_stands_in(self):
        x, y = same(place("more", "x"), place("pair", "x")), same(place("more", "y"), place("pair", "y"))
        self.look(stands_in("more", "pair"), x & y)
        self.look(stands_in("pair", "short"), same(place("pair", "x"), place("short", "x")))
        self.look(stands_in("swapped", "pair"), same(place("swapped", "x"), place("pair", "x")) & same(place("swapped", "y"), place("pair", "y")))
        self.look(stands_in("pair", "swapped"), same(place("pair", "y"), place("swapped", "y")) & same(place("pair", "x"), place("swapped", "x")))
        for one, other in (("pair", "more"), ("unlike", "pair"), ("short", "pair"), ("int", "short"), ("view", "pair")):
            self.look(stands_in(one, other), no())
        for other in ("int", "long"):
            self.look(stands_in("pair", other), yes())
        several = [same(place("deep", path), place("deep", path)) for path in BOOK.resolved("deep").paths()]
        self.assertEqual(len(several), 9)
        expected = several[0]
        for claim in several[1:]:
            expected = expected & claim
        self.look(stands_in("deep", "deep"), expected)
        # Fields within rows have no paths of their own; rows are compared as parts.
        book = Shelf([INT, LONG], {"p": Record([("a", Row(INT, 2))]), "q": Record([("a", Row(INT, 3))]), "r": Row(INT, 3)})
        self.assertEqual([plain(book, stands_in("p", "q")), plain(book, stands_in("p", "r"))], [no(), yes()])

    def test_joined(self):
        self.look(~no_tail("pair") & (yes() | no_gap("q", "rows.0")), ~same(size("pair"), end("pair", "y")) & (yes() | yes()))

    def test_the_document(self):
        i, d = Kind("i"), Kind("d")
        pads = Shelf([i, d], {"p": Record([("x", i), ("y", d)]), "q": Record([("x", i), ("z", i), ("y", d)])})
        one = same(place("p", "y"), place("q", "y"))
        self.assertNotEqual(plain(pads, stands_in("q", "p")), same(place("q", "x"), place("p", "x")) & one)
        turned = same(place("q", "y"), place("p", "y"))
        self.assertEqual(plain(pads, stands_in("q", "p")), same(place("q", "x"), place("p", "x")) & turned)

    def test_great_claims(self):
        part = Byte()
        for _ in range(3):
            part = Record([(letter, part) for letter in "abcdefgh"])
        book = Shelf([INT, LONG], {"p": part})
        claim = plain(book, stands_in("p", "p"))
        self.assertEqual(str(claim).count(" and "), 8 + 64 + 512 - 1)
        self.assertEqual(plain(book, claim), claim)
        self.assertEqual((~claim & yes()).named(), ("p",))
        several = yes()
        for _ in range(1000):
            several = several & ~same(number(1), size("int"))
        self.assertIs(told(book, several, FREE.within("byte", "size int", -1)), True)
        self.assertIs(holds(book, ~several, MACHINE), False)
        self.assertEqual(len(str(plain(book, several))), len(str(several)))

    def test_the_book_as_it_is(self):
        book = Shelf([INT, LONG], {"p": PAIR, "q": Record([("a", Use("p"))])})
        claim = no_gap("q", "a.y")
        self.assertEqual(plain(book, claim), same(place("q", "a.y"), end("q", "a.x")))
        book.parts["p"] = Record([("y", INT), ("x", Byte())])
        self.assertEqual(plain(book, claim), yes())
        book.parts["p"] = INT
        self.assertEqual(raised_by(plain, book, claim), ("NoPath", "a.y", 1))


class Holds(unittest.TestCase):
    def test_by_hand(self):
        # pair: x 0, y 4, size 8; q: head 0, rows 8, last 40, size 64; more: x 0, z 1, y 4.
        for claim, expected in [
            (yes(), True), (no(), False), (ONE, True), (same(size("pair"), number(9)), False), (OTHER, True),
            (at_most(size("pair"), number(8)), True), (less(size("pair"), number(8)), False), (at_most(size("pair"), number(7)), False),
            (no_gap("pair", "y"), False), (no_gap("pair", "x"), True), (no_gap("q", "last"), True), (no_gap("q", "rows.2"), True),
            (no_tail("pair"), True), (no_tail("swapped"), False), (least_order("pair"), True), (least_order("swapped"), True),
            (least_order("q"), True), (stands_in("more", "pair"), True), (stands_in("pair", "more"), False), (stands_in("unlike", "pair"), False),
            (stands_in("swapped", "pair"), False), (ONE & no(), False), (ONE | no(), True), (~ONE, False), (~(no() | no()), True), (ONE & OTHER, True),
        ]:
            self.assertIs(holds(BOOK, claim, MACHINE), expected, str(claim))
        self.assertIs(holds(book=BOOK, claim=ONE, machine=MACHINE), True)

    def test_a_record_that_wastes(self):
        book = Shelf([INT], {"r": Record([("a", Byte()), ("b", INT), ("c", Byte())])})
        for s, expected in ((0, [True, True, True]), (2, [False, False, False])):
            machine = Machine([INT], {"int": (s, s)})
            self.assertEqual([holds(book, claim, machine) for claim in (least_order("r"), no_tail("r"), no_gap("r", "b"))], expected)
        self.assertIs(holds(book, no_gap("r", "c"), machine), True)


class Reach(unittest.TestCase):
    def test_by_hand(self):
        self.assertEqual(reach(BOOK), 0)
        self.assertEqual(reach(BOOK, yes(), no(), no_gap("pair", "x"), stands_in("short", "pair")), 0)
        for claim, expected in [
            (same(number(0), number(0)), 0), (same(number(0), number(1)), 1), (less(number(7), number(3)), 3), (at_most(number(3), number(8)), 4),
            (ONE, 4), (same(size("pair"), align("q")), 3), (no_gap("pair", "y"), 3), (no_tail("q"), 5), (least_order("q"), 5),
            (stands_in("more", "pair"), 3), (~(yes() & ONE), 4), (same(2 * size("q"), number(1)), 6), (stands_in("deep", "deep"), 5),
        ]:
            self.assertEqual(reach(BOOK, claim), expected, str(claim))
        self.assertEqual(reach(BOOK, no_gap("pair", "y"), no_tail("q"), yes()), 5)

    def test_facts_count(self):
        book = Shelf(BOOK.kinds, BOOK.parts, [yes(), no_tail("q")])
        self.assertEqual([reach(book), reach(book, ONE), reach(book, same(number(1000), number(0)))], [5, 5, 10])

    def test_the_document(self):
        i, d = Kind("i"), Kind("d")
        pads = Shelf([i, d], {"p": Record([("x", i), ("y", d)]), "q": Record([("x", i), ("z", i), ("y", d)])})
        self.assertEqual(reach(pads, same(place("p", "y"), place("q", "y"))), 3)


class Refused(unittest.TestCase):
    def calls(self, claim, book=BOOK):
        zone, machine = Zone.of(book.kinds), Machine(book.kinds, {kind.name: (1, 1) for kind in book.kinds})
        return [(plain, book, claim), (holds, book, claim, machine), (told, book, claim, zone), (reach, book, claim), (reach, book, yes(), claim)]

    def look(self, claim, error, book=BOOK):
        for call in self.calls(claim, book):
            self.assertEqual(raised_by(*call), error, str(claim))

    def test_names_paths_and_records(self):
        for claim, error in [
            (same(size("zz"), number(1)), ("NoName", "zz")), (same(number(1), align("zz")), ("NoName", "zz")),
            (less(place("pair", "z"), size("zz")), ("NoPath", "z", 0)), (at_most(packed("view"), size("zz")), ("NotRecord", "view")),
            (no_gap("zz", "x"), ("NoName", "zz")), (no_gap("pair", "x.y"), ("NoPath", "x.y", 1)), (no_gap("int", "x"), ("NoPath", "x", 0)),
            (no_tail("zz"), ("NoName", "zz")), (no_tail("view"), ("NotRecord", "view")), (no_tail("int"), ("NotRecord", "int")),
            (least_order("zz"), ("NoName", "zz")), (least_order("view"), ("NotRecord", "view")),
            (stands_in("zz", "yy"), ("NoName", "zz")), (stands_in("pair", "yy"), ("NoName", "yy")), (stands_in("zz", "pair"), ("NoName", "zz")),
        ]:
            self.look(claim, error)
            self.look(~(yes() & claim) | no(), error)

    def test_from_the_left(self):
        for claim, error in [
            (no_tail("view") & no_tail("zz"), ("NotRecord", "view")), (no_tail("zz") | no_tail("view"), ("NoName", "zz")),
            (ONE & (no_gap("pair", "q") | same(size("aa"), number(1))), ("NoPath", "q", 0)),
            (~stands_in("pair", "bb") & least_order("aa"), ("NoName", "bb")),
        ]:
            self.look(claim, error)

    def test_units(self):
        row = Row(Row(Row(Kind("int", 8), 64), 64), 64)
        kinds = [Kind("int", 8)]
        book = Shelf(kinds, {"big": row, "wide": Record([("a", row), ("b", Byte())]), "w": Record([("a", row)]), "p": Record([("x", Byte())])})
        large = ("TooLarge", "units", 1000000)
        for claim in (
            same(size("big"), number(1)), same(number(1), size("big")), no_gap("wide", "b"), no_tail("wide"), least_order("wide"), stands_in("wide", "w"),
            yes() & ~no_tail("wide"),
        ):
            self.look(claim, large, book)
            self.look(claim & no_tail("zz"), ("NoName", "zz"), book)
            self.look(claim | no_tail("big"), ("NotRecord", "big"), book)
            self.look(claim & no_gap("p", "y"), ("NoPath", "y", 0), book)
        for claim in (no_gap("wide", "a"), no_gap("wide", "a.1"), stands_in("p", "wide"), stands_in("wide", "p"), same(align("big"), number(1))):
            self.look(claim, None, book)

    def test_several_claims(self):
        book = Shelf([Kind("int", 8)], {"big": Row(Row(Row(Kind("int", 8), 64), 64), 64)})
        large, lost = same(size("big"), number(1)), no_tail("zz")
        self.assertEqual(raised_by(reach, book, large, lost), ("TooLarge", "units", 1000000))
        self.assertEqual(raised_by(reach, book, lost, large), ("NoName", "zz"))

    def test_other_machines_come_first(self):
        for machine in (Machine([LONG, INT], {"int": (2, 2), "long": (3, 2)}), Machine([INT], {"int": (0, 0)})):
            for claim in (yes(), no_tail("zz"), ONE):
                self.assertEqual(raised_by(holds, BOOK, claim, machine), ("NoMachine", None))


if __name__ == "__main__":
    unittest.main()
