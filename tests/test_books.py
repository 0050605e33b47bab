"""Points 10 to 12: books, what may be set and dropped, and facts."""

import unittest

from anypads.books import Book
from anypads.claims import Claim, at_most, holds, less, no, no_gap, no_tail, same, told, yes
from anypads.machines import Machine
from anypads.parts import Byte, Kind, Overlay, Part, Record, Row, Use
from anypads.terms import Term, align, form_in, number, packed, place, size, units_of, value
from anypads.verdicts import decide
from anypads.zones import Zone
from tests.values import ANY, PARTS, is_text_of, raised_by

INT, LONG = Kind("int"), Kind("long", 3)
PAIR = Record([("x", Byte()), ("y", INT)])


def put(book, name, part):
    book[name] = part


def add(book, claim):
    book += claim


def assign(book, facts):
    book.facts = facts


def state(book):
    return book.kinds, book.names, [book[name] for name in book.names], book.facts


def library():
    book = Book(INT, LONG)
    book["p"] = PAIR
    book["q"] = Record([("head", Use("p")), ("last", LONG)])
    return book


class Made(unittest.TestCase):
    def test_kinds(self):
        for kinds in ([INT], [INT, LONG], [LONG, INT, Kind("x", 8)]):
            book = Book(*kinds)
            self.assertEqual(book.kinds, tuple(kinds))
            self.assertIs(type(book.kinds), tuple)
            self.assertEqual([book[kind.name] for kind in kinds], kinds)
            self.assertEqual((len(book), book.names, book.facts), (0, (), ()))

    def test_numbers_of_kinds(self):
        for kinds in ([], [INT] * 4, [None] * 4, [Kind(name) for name in "abcd"]):
            self.assertEqual(raised_by(Book, *kinds), ("BadParts", None))

    def test_any_values(self):
        for thing in ANY:
            fine = isinstance(thing, Kind)
            self.assertEqual(raised_by(Book, thing), None if fine else ("BadParts", 0))
            self.assertEqual(raised_by(Book, INT, thing), None if fine else ("BadParts", 1))
            self.assertEqual(raised_by(Book, thing, None), ("BadParts", 1 if fine else 0))

    def test_a_name_twice(self):
        self.assertEqual(raised_by(Book, INT, INT), ("Taken", "int"))
        self.assertEqual(raised_by(Book, INT, LONG, Kind("int", 2)), ("Taken", "int"))
        self.assertEqual(raised_by(Book, INT, INT, Byte()), ("BadParts", 2))


class Set(unittest.TestCase):
    def test_parts(self):
        book = library()
        self.assertEqual([book["p"], book["q"]], [PAIR, Record([("head", Use("p")), ("last", LONG)])])
        self.assertEqual((book.names, len(book)), (("p", "q"), 2))
        book["a"] = Byte()
        book["p"] = Row(INT, 2)
        self.assertEqual(book.names, ("p", "q", "a"))
        self.assertEqual(str(book.resolved("q")), "{head:2*int last:long}")

    def test_dropped_and_set_again(self):
        book = library()
        book["a"] = Byte()
        book.drop("q")
        book["q"] = INT
        self.assertEqual(book.names, ("p", "a", "q"))

    def test_names(self):
        for name in ANY + ["byte", "leaf", "abcdefghi"]:
            book = library()
            expected = None if is_text_of(name, ["a"]) else ("BadName", name)
            self.assertEqual(raised_by(put, book, name, INT), expected)
            self.assertEqual(raised_by(put, book, name, None), expected or ("BadParts", None))
        self.assertEqual(raised_by(put, library(), "int", None), ("Taken", "int"))
        self.assertEqual(raised_by(put, library(), "long", LONG), ("Taken", "long"))

    def test_any_parts(self):
        book = Book(Kind("any"), INT)
        book["any" + "x"] = Byte()
        for thing in ANY:
            if not isinstance(thing, Part):
                self.assertEqual(raised_by(put, book, "r", thing), ("BadParts", None))
        for part in PARTS:
            expected = None
            if part == Kind("any", 8):
                expected = ("NoScale", "size any")
            elif part == Use("any"):
                expected = ("NoName", "any")
            self.assertEqual(raised_by(put, book, "r", part), expected)

    def test_kinds_of_another_book(self):
        short, lost = Kind("short"), Kind("ant")
        part = Record([("a", short), ("b", lost), ("c", Use("none"))])
        self.assertEqual(raised_by(put, library(), "r", part), ("NoScale", "size ant"))
        self.assertEqual(raised_by(put, library(), "r", Record([("a", Kind("long"))])), ("NoScale", "size long"))
        self.assertEqual(raised_by(put, library(), "r", Record([("a", Kind("long", 3))])), None)

    def test_uses_of_no_part(self):
        part = Record([("a", Use("z")), ("b", Use("c")), ("d", Use("p"))])
        self.assertEqual(raised_by(put, library(), "r", part), ("NoName", "c"))
        self.assertEqual(raised_by(put, library(), "r", Use("int")), ("NoName", "int"))
        self.assertEqual(raised_by(put, library(), "r", Record([("a", Use("r")), ("b", Use("z"))])), ("NoName", "z"))

    def test_rings(self):
        book = library()
        self.assertEqual(raised_by(put, book, "r", Use("r")), ("Ring", ("r",)))
        self.assertEqual(raised_by(put, book, "p", Record([("again", Use("q"))])), ("Ring", ("p", "q")))
        book["r"] = Row(Use("q"), 2)
        self.assertEqual(raised_by(put, book, "p", Overlay([("a", Byte()), ("b", Use("r"))])), ("Ring", ("p", "r", "q")))
        self.assertEqual(raised_by(put, book, "p", Record([("a", Use("r")), ("b", Use("q"))])), ("Ring", ("p", "q")))
        self.assertEqual(raised_by(put, book, "p", Record([("a", Use("r")), ("b", Use("p"))])), ("Ring", ("p",)))

    def test_two_rings_of_one_length(self):
        book = Book(INT)
        book["z"] = Byte()
        for name in "dcba":
            book[name] = Row(Use("z"), 2)
        self.assertEqual(raised_by(put, book, "z", Record([("k", Use("c")), ("l", Use("b"))])), ("Ring", ("z", "b")))
        book["m"] = Record([("k", Use("d")), ("l", Use("a"))])
        book["n"] = Record([("k", Use("c"))])
        self.assertEqual(raised_by(put, book, "z", Record([("k", Use("n")), ("l", Use("m"))])), ("Ring", ("z", "m", "a")))

    def test_depth(self):
        book = Book(INT)
        book["a"] = INT * 2 * 2
        book["b"] = Row(Use("a"), 2)
        book["c"] = Record([("x", Use("b"))])
        self.assertEqual(book.resolved("c").depth, 4)
        self.assertEqual(raised_by(put, book, "d", Row(Use("c"), 2)), ("TooLarge", "depth", 4))
        self.assertEqual(raised_by(put, book, "a", INT * 2 * 2 * 2), ("TooLarge", "depth", 4))
        # A ring is told ahead of it.
        self.assertEqual(raised_by(put, book, "a", Record([("x", Use("c")), ("y", INT * 2 * 2 * 2)])), ("Ring", ("a", "c", "b")))
        self.assertEqual(book["a"], INT * 2 * 2)

    def test_facts_about_the_part_that_was_there(self):
        book = library()
        book += no_gap("p", "y") | yes()
        book += same(place("q", "last"), number(0)) | yes()
        self.assertEqual(raised_by(put, book, "p", Record([("x", Byte())])), ("NoPath", "y", 0))
        self.assertEqual(raised_by(put, book, "q", Row(LONG, 3)), ("NoPath", "last", 0))
        self.assertEqual(raised_by(put, book, "p", Row(Byte(), 3)), ("NoPath", "y", 0))
        book = library()
        book += no_tail("p") | yes()
        book += at_most(packed("q"), size("q"))
        self.assertEqual(raised_by(put, book, "p", Byte() * 8), ("NotRecord", "p"))
        self.assertEqual(raised_by(put, book, "q", Use("p")), None)
        self.assertEqual(raised_by(put, book, "p", Byte() * 8), ("NotRecord", "p"))

    def test_units_of_facts(self):
        book = Book(INT)
        book["p"] = Byte()
        book += at_most(size("p"), size("p"))
        book += at_most(64 * size("p"), 64 * size("p"))
        many = Byte() * 64 * 64 * 64
        self.assertIsNone(raised_by(put, book, "p", Byte() * 25 * 25 * 25))
        self.assertEqual(raised_by(put, book, "p", many), ("TooLarge", "units", 1000000))
        self.assertEqual(raised_by(put, book, "p", Row(many, 4)), ("TooLarge", "units", 1000000))
        book.facts = ()
        self.assertIsNone(raised_by(put, book, "p", Row(many, 4)))

    def test_barred(self):
        book = library()
        book += at_most(size("p"), number(2))
        self.assertEqual(raised_by(put, book, "p", Record([("x", Byte() * 2), ("y", INT)])), ("Barred",))
        # A fact that would raise comes ahead of it.
        book += no_gap("p", "y")
        self.assertEqual(raised_by(put, book, "p", Record([("x", Byte() * 2), ("z", INT)])), ("NoPath", "y", 0))
        self.assertEqual(state(book)[1:3], (("p", "q"), [PAIR, Record([("head", Use("p")), ("last", LONG)])]))
        # What others use counts with all of it.
        book = library()
        book += at_most(place("q", "last"), number(4))
        self.assertEqual(raised_by(put, book, "p", Byte() * 5), ("Barred",))

    def test_what_raises_changes_nothing(self):
        book = library()
        book += at_most(size("p"), number(2))
        before = state(book)
        for name, part in [
            ("int", INT), ("x y", INT), ("r", None), ("r", Kind("any")), ("r", Use("none")), ("p", Use("q")), ("p", Row(INT, 3)),
            ("q", Row(Row(Row(Row(Use("p"), 2), 2), 2), 2)),
        ]:
            self.assertIsNotNone(raised_by(put, book, name, part))
            self.assertEqual(state(book), before)

    def test_lists_that_are_changed_afterwards(self):
        fields = [("x", Byte()), ("y", INT)]
        book = Book(INT)
        book["p"] = Record(fields)
        facts = [at_most(size("p"), number(4))]
        book.facts = facts
        fields.append(("z", INT))
        facts.append(no())
        facts[0] = no()
        self.assertEqual((book["p"], book.facts), (PAIR, (at_most(size("p"), number(4)),)))


class Dropped(unittest.TestCase):
    def test_any_values(self):
        for name in ANY + ["int", "long", "r"]:
            self.assertEqual(raised_by(library().drop, name), ("NoName", name))

    def test_used(self):
        book = library()
        book["a"] = Row(Use("p"), 2)
        book += at_most(size("p"), number(8))
        self.assertEqual(raised_by(book.drop, "p"), ("InUse", "a"))
        book.drop("a")
        self.assertEqual(raised_by(book.drop, "p"), ("InUse", "q"))
        self.assertIsNone(book.drop(name="q"))
        self.assertEqual(raised_by(book.drop, "p"), ("InUse", ""))
        book.set_facts([])
        self.assertIsNone(book.drop("p"))
        self.assertEqual((book.names, len(book), "p" in book), ((), 0, False))

    def test_used_far_away(self):
        book = library()
        book["r"] = Use("q")
        self.assertEqual(raised_by(book.drop, "q"), ("InUse", "r"))
        book.drop("r")
        book += ~(yes() | at_most(align("q"), number(1)) & no()) | yes()
        self.assertEqual(raised_by(book.drop, "q"), ("InUse", ""))


class Asked(unittest.TestCase):
    def test_any_values(self):
        book = library()
        for name in ANY + ["r", "p.x", "@p"]:
            for call in (book.resolved, lambda each: book[each]):
                self.assertEqual(raised_by(call, name), ("NoName", name))
            self.assertIs(name in book, False)
        for name in ("p", "q", "int", "long"):
            self.assertIs(name in book, True)

    def test_names_is_a_tuple(self):
        book = library()
        self.assertIs(type(book.names), tuple)
        self.assertIs(type(book.facts), tuple)
        self.assertIsInstance(vars(Book)["names"], property)
        self.assertIsInstance(vars(Book)["facts"], property)

    def test_resolved(self):
        book = Book(INT, LONG)
        book["a"] = INT
        book["b"] = Overlay([("x", Use("a")), ("y", Row(Use("a"), 3))])
        book["c"] = Record([("k", Row(Use("b"), 2)), ("l", Use("a")), ("m", Byte())])
        book["d"] = Use("c")
        self.assertEqual(str(book.resolved("d")), "{k:2*(x:int|y:3*int) l:int m:byte}")
        self.assertEqual([str(book.resolved(name)) for name in ("a", "int", "b")], ["int", "int", "(x:int|y:3*int)"])
        book["a"] = LONG
        self.assertEqual(str(book.resolved(name="d")), "{k:2*(x:long|y:3*long) l:long m:byte}")
        self.assertEqual(str(book["d"]), "@c")

    def test_uses_of_parts_that_were_set_later(self):
        book = Book(INT)
        book["b"] = Byte()
        book["a"] = Use("b")
        book["c"] = Row(INT, 2)
        book["b"] = Use("c")
        self.assertEqual(str(book.resolved("a")), "2*int")

    def test_equal(self):
        one, other = library(), library()
        self.assertTrue(one == other)
        self.assertFalse(one != other)
        for thing in ANY:
            self.assertIs(one == thing, False)
        other["r"] = Byte()
        self.assertFalse(one == other)
        one["r"] = Byte()
        self.assertTrue(one == other)
        one += yes()
        self.assertFalse(one == other)
        other += yes()
        self.assertTrue(one == other)
        one += no_tail("p")
        one += yes()
        other += yes()
        other += no_tail("p")
        self.assertFalse(one == other)

    def test_equal_but_for_the_order(self):
        one, other = Book(INT, LONG), Book(INT, LONG)
        one["p"], one["q"] = INT, LONG
        other["q"], other["p"] = LONG, INT
        self.assertFalse(one == other)
        self.assertFalse(Book(INT, LONG) == Book(LONG, INT))
        self.assertFalse(Book(INT) == Book(Kind("int", 2)))
        self.assertTrue(Book(INT) == Book(Kind("int")))


class Facts(unittest.TestCase):
    def test_one_more(self):
        book = library()
        same_book = book
        book += at_most(size("p"), number(8))
        book += at_most(size("p"), number(8))
        self.assertIs(book, same_book)
        self.assertEqual(book.facts, (at_most(size("p"), number(8)),) * 2)

    def test_any_values(self):
        for thing in ANY:
            book = Book(Kind("any"))
            fine = isinstance(thing, Claim) and thing != ~no_tail("any")
            expected = None if fine else (("NotRecord", "any") if isinstance(thing, Claim) else ("NoClaim", 0))
            self.assertEqual(raised_by(add, book, thing), expected)
            wrong = None if fine else (("NotRecord", "any") if isinstance(thing, Claim) else ("NoClaim", 1))
            for call in (assign, Book.set_facts):
                book = Book(Kind("any"))
                self.assertEqual(raised_by(call, book, [yes(), thing]), wrong)
                self.assertEqual(book.facts, () if wrong else (yes(), thing))
                if not isinstance(thing, (list, tuple)):
                    self.assertEqual(raised_by(call, book, thing), ("NoClaim", None))
                elif thing:
                    self.assertEqual(raised_by(call, book, thing), ("NoClaim", 0))

    def test_assigned(self):
        book = library()
        claims = [at_most(size("p"), number(8)), yes()]
        book.facts = claims
        self.assertEqual(book.facts, tuple(claims))
        book.facts = (yes(),)
        self.assertEqual(book.facts, (yes(),))
        self.assertIsNone(book.set_facts(claims=claims))
        self.assertEqual(book.facts, tuple(claims))
        book.facts = []
        self.assertEqual(book.facts, ())

    def test_the_order_of_errors(self):
        book = library()
        before = state(book)
        for facts, expected in [
            ([no(), None, 5], ("NoClaim", 1)), ([no_tail("z"), None], ("NoClaim", 1)), (None, ("NoClaim", None)), ({}, ("NoClaim", None)),
            ([no(), no_tail("z")], ("NoName", "z")), ([no_tail("int"), no_tail("z")], ("NotRecord", "int")),
            ([no_gap("p", "z"), no_tail("int")], ("NoPath", "z", 0)), ([yes(), no()], ("Barred",)), ((no(),), ("Barred",)),
            ([at_most(size("p"), size("z")), no_gap("p", "z")], ("NoName", "z")),
            ([same(64 * (64 * (64 * (64 * number(1)))), number(1)), no_tail("z")], ("TooLarge", "units", 1000000)),
        ]:
            for call in (assign, Book.set_facts):
                self.assertEqual(raised_by(call, book, facts), expected)
                self.assertEqual(state(book), before)

    def test_barred(self):
        book = library()
        self.assertEqual(raised_by(add, book, no()), ("Barred",))
        book += same(size("int"), number(4))
        self.assertEqual(raised_by(add, book, same(size("int"), number(8))), ("Barred",))
        self.assertEqual(raised_by(add, book, same(size("long"), number(12))), None)
        self.assertEqual(raised_by(add, book, same(size("long"), number(8))), ("Barred",))
        self.assertEqual(raised_by(add, book, less(size("int"), align("int"))), ("Barred",))
        self.assertEqual(len(book.facts), 2)
        # A set is looked at as a whole: none of its parts alone bars.
        self.assertEqual(raised_by(assign, book, [less(size("int"), size("long")), less(size("long"), 3 * size("int"))]), None)
        third = [less(size("int"), size("long")), less(size("long"), 3 * size("int")), at_most(2 * size("int"), size("long"))]
        self.assertEqual(raised_by(assign, book, third), ("Barred",))

    def test_only_great_machines(self):
        book = library()
        book += less(number(1000), size("int"))
        book += less(64 * size("int"), align("long"))
        self.assertEqual(str(decide(book, no()).machine), "int 10 0, long 17 17")

    def test_facts_are_decided_for_the_parts_as_they_are(self):
        book = library()
        book += same(size("p"), number(8))
        self.assertEqual(book(same(size("p"), number(8))).word, "always")
        self.assertEqual(str(book(no()).machine), "int 2 2, long 0 0")
        book["p"] = Record([("x", Byte() * 7), ("y", INT)])
        self.assertEqual(str(book(no()).machine), "int 0 0, long 0 0")
        self.assertEqual(raised_by(put, book, "p", Byte() * 9), ("Barred",))

    def test_asking(self):
        book = library()
        for thing in ANY:
            if not isinstance(thing, Claim):
                self.assertEqual(raised_by(book, thing), ("NoClaim", 0))
        self.assertEqual(raised_by(book, no_tail("z")), ("NoName", "z"))
        self.assertEqual(book(claim=yes()), decide(book, yes()))


class Edited(unittest.TestCase):
    """Points 22 to 26 with books whose parts change under terms and claims that were asked before."""

    def test_terms_and_claims(self):
        book = library()
        machine = Machine([INT, LONG], {"int": (2, 2), "long": (3, 2)})
        term, claim = place("q", "last") + size("p"), same(place("q", "last"), number(8))
        zone = Zone(INT, LONG).within("size int", "byte", 0).within("align long", "byte", 0)
        self.assertEqual([units_of(book, term), value(book, term, machine), holds(book, claim, machine)], [13, 16, True])
        self.assertEqual([str(form_in(book, term, zone)), told(book, claim, zone)], ["2*byte + 2*size int", False])
        book["p"] = Byte() * 8
        self.assertEqual([units_of(book, term), value(book, term, machine), holds(book, claim, machine)], [21, 16, True])
        self.assertEqual([str(form_in(book, term, zone)), told(book, claim, zone)], ["16*byte", True])
        self.assertIs(type(term), Term)

    def test_an_edited_book_is_a_new_one(self):
        book = Book(INT, LONG)
        book["z"] = Byte()
        book["q"] = Record([("head", Use("z")), ("last", LONG)])
        book += at_most(size("z"), number(1))
        book.facts = []
        book["p"] = PAIR
        book["q"] = Record([("head", Use("p")), ("last", LONG)])
        book.drop("z")
        book["x"] = book["p"]
        book.drop("x")
        fresh = library()
        claim = same(place("q", "last"), size("p"))
        self.assertEqual(decide(book, claim).tree, decide(fresh, claim).tree)
        self.assertEqual(decide(book, claim), decide(fresh, claim))
        self.assertFalse(book == fresh)
        self.assertEqual(sorted(book.names), sorted(fresh.names))


if __name__ == "__main__":
    unittest.main()
