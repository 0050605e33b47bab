"""Point 12 and the interface: trials, twins, and what was told before an edit."""

import unittest

from anypads.books import Book
from anypads.claims import at_most, no, same, yes
from anypads.errors import NoName, PadError
from anypads.parts import Byte, Kind, Record, Use
from anypads.regions import implied, region, span
from anypads.terms import number, place, size
from anypads.trees import leaves
from anypads.verdicts import decide, verdicts

INT = Kind("int")
PAIR = Record([("x", Byte()), ("y", INT)])


def library():
    book = Book(INT)
    book["p"] = PAIR
    book["q"] = Record([("head", Use("p")), ("last", Byte())])
    book += at_most(size("int"), number(8))
    return book


class Stop(Exception):
    pass


class Trials(unittest.TestCase):
    def test_a_block(self):
        book = library()
        with book.trial() as same_book:
            self.assertIs(same_book, book)
            book.drop("q")
            book["r"] = Byte()
            book["p"] = INT
            book += at_most(size("p"), number(4))
            self.assertEqual((book.names, len(book.facts)), (("p", "r"), 2))
        self.assertTrue(book == library())
        self.assertEqual(book.names, ("p", "q"))
        self.assertEqual(str(book.resolved("q")), "{head:{x:byte y:int} last:byte}")

    def test_a_block_that_ends_by_an_error(self):
        book = library()
        for error in (Stop, NoName):
            with self.assertRaises(error):
                with book.trial():
                    book.facts = []
                    book["p"] = Byte()
                    raise error("x")
            self.assertTrue(book == library())
        with self.assertRaises(PadError):
            with book.trial() as same_book:
                same_book["q"] = INT
                same_book["q"] = Use("q")
        self.assertTrue(book == library())

    def test_a_block_that_is_left(self):
        def left(book):
            with book.trial():
                book.drop("q")
                return len(book)

        book = library()
        self.assertEqual(left(book), 1)
        for _ in range(2):
            with book.trial():
                book.drop("q")
                continue
        self.assertTrue(book == library())

    def test_blocks_in_blocks(self):
        book = library()
        with book.trial():
            book.drop("q")
            with self.assertRaises(Stop):
                with book.trial():
                    book.drop("p")
                    with book.trial():
                        book["z"] = INT
                        self.assertEqual(book.names, ("z",))
                    self.assertEqual(book.names, ())
                    raise Stop()
            self.assertEqual(book.names, ("p",))
            book["q"] = Byte()
        self.assertTrue(book == library())

    def test_the_state_at_the_beginning_of_the_block(self):
        book = library()
        trial = book.trial()
        book["r"] = Byte()
        with trial:
            book.drop("r")
            with trial:
                book.drop("q")
            self.assertEqual(book.names, ("p", "q"))
        self.assertEqual(book.names, ("p", "q", "r"))
        book.drop("r")
        with trial:
            book.set_facts([])
        self.assertTrue(book == library())

    def test_tried(self):
        book = library()
        self.assertEqual(book.tried(lambda each: [each is book, each.drop("q"), len(each)]), [True, None, 1])
        self.assertTrue(book == library())
        self.assertEqual(book.tried(ask=lambda each: each.tried(lambda other: other.drop("q")) or len(each)), 2)
        with self.assertRaises(NoName):
            book.tried(lambda each: [each.drop("q"), each.drop("q")])
        self.assertTrue(book == library())


class Twins(unittest.TestCase):
    def test_the_two_do_not_affect_each_other(self):
        book = library()
        twin = book.twin()
        self.assertTrue(twin == book)
        self.assertIsNot(twin, book)
        twin.drop("q")
        twin["p"] = INT
        twin += yes()
        self.assertTrue(book == library())
        book["z"] = Byte()
        book.facts = ()
        self.assertEqual((twin.names, len(twin.facts)), (("p",), 2))
        self.assertEqual(str(twin.resolved("p")), "int")

    def test_twins_and_trials(self):
        book = library()
        with book.trial():
            book.drop("q")
            twin = book.twin()
        self.assertEqual((book.names, twin.names), (("p", "q"), ("p",)))


class Told(unittest.TestCase):
    def test_what_was_told_stays(self):
        book = library()
        claim = same(size("p"), 2 * size("int"))
        verdict, all_of_it, told_span = decide(book, claim), region(book, claim), span(book, size("p"))
        text, tree, count, pair = repr(verdict), verdict.tree, all_of_it.count(), implied(book, "size int", "byte")
        self.assertEqual((text, count, pair, told_span.high), ("breaks int 1 0", 4, (0, 3), 16))
        book["p"] = Byte()
        book.facts = []
        self.assertEqual((repr(verdict), verdict.tree, all_of_it.count(), told_span.high), (text, tree, 4, 16))
        self.assertEqual(implied(book, "size int", "byte"), (0, None))
        self.assertFalse(decide(book, claim) == verdict)

    def test_verdicts_are_all_of_the_book_at_the_first_one(self):
        book = library()
        found = verdicts(book, [no(), same(size("p"), number(2))])
        self.assertEqual(next(found).word, "breaks")
        book["p"] = Byte()
        self.assertEqual([repr(each) for each in found], ["breaks int 1 0"])

    def test_trees_with_real_books(self):
        book = library()
        tree = decide(book, same(place("p", "y"), size("int"))).tree
        zones = list(leaves(book, tree))
        book["p"] = Byte()
        self.assertEqual(zones, list(leaves(book, tree)))


if __name__ == "__main__":
    unittest.main()
