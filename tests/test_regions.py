"""Points 30 and 31: regions, spans and sizes that are told, by hand."""

import unittest

from anypads.books import Book
from anypads.claims import Claim, at_most, less, no, no_tail, same, stands_in, yes
from anypads.machines import Machine
from anypads.parts import Byte, Kind, Record
from anypads.regions import Region, Span, implied, region, span, sure, told_sizes
from anypads.terms import align, end, number, packed, place, size
from anypads.zones import Zone
from tests.values import ANY, GREAT, is_text_of, is_whole, raised_by, same as alike

INT, LONG = Kind("int"), Kind("long", 3)


def library(*kinds):
    book = Book(*kinds)
    book["r"] = Record([("a", Byte()), ("b", INT)])
    return book


ONE, TWO = library(INT), library(INT, LONG)


def numbers(machines):
    return [tuple(machine[scale] for scale in machine.scales) for machine in machines]


def small(book, most):
    """The machines whose int is not above a number of bytes."""
    return region(book, at_most(size("int"), number(most)))


class Regions(unittest.TestCase):
    def test_the_document(self):
        found = region(ONE, at_most(size("r"), number(4)))
        self.assertEqual([found.count(), numbers(found.ascending(9)), found.endless], [3, [(0, 0), (1, 0), (1, 1)], ()])
        self.assertEqual(region(ONE, yes()).endless, ("size int", "align int"))

    def test_errors_of_region(self):
        for value in ANY:
            if not isinstance(value, Claim):
                self.assertEqual(raised_by(region, ONE, value), ("NoClaim", 0))
                self.assertEqual(raised_by(region, ONE, yes(), [yes(), value]), ("NoClaim", 2))
        self.assertEqual(raised_by(region, ONE, no_tail("z"), [None]), ("NoClaim", 1))
        self.assertEqual(raised_by(region, ONE, no_tail("z"), [no_tail("int")]), ("NoName", "z"))
        self.assertEqual(raised_by(region, ONE, yes(), (no_tail("int"),)), ("NotRecord", "int"))
        great = 64 * (64 * (64 * number(4)))
        self.assertEqual(raised_by(region, ONE, less(size("int"), great), [no_tail("z")]), ("TooLarge", "units", 1000000))
        self.assertEqual(region(book=ONE, claim=yes(), given=(yes(),)), region(ONE, yes()))

    def test_the_class(self):
        found = small(TWO, 4)
        self.assertIs(type(found), Region)
        self.assertEqual((found.kinds, found.scales), (Zone(INT, LONG).kinds, Zone(INT, LONG).scales))
        self.assertTrue({"kinds", "scales"} <= set(vars(found)))
        zones = found.zones()
        self.assertIs(type(zones), list)
        zones.clear()
        self.assertNotEqual(found.zones(), [])
        self.assertTrue(all(isinstance(zone, Zone) and zone.kinds == (INT, LONG) for zone in found.zones()))
        self.assertIsInstance(vars(Region)["endless"], property)

    def test_facts_and_given_claims(self):
        book = library(INT)
        book += at_most(size("int"), number(8))
        self.assertEqual(region(book, yes()), small(ONE, 8))
        self.assertEqual(region(book, at_most(size("int"), number(4)), [at_most(size("int"), number(2))]), small(ONE, 2))
        self.assertEqual(region(book, no()).zones(), [])
        self.assertEqual(region(book, yes(), [less(number(8), size("int"))]).zones(), [])

    def test_any_values_in_it(self):
        found = small(ONE, 2)
        for value in ANY + [{"size int": 1}, {"size int": 1, "align int": 0, "byte": 0}, {"size int": True, "align int": 0}]:
            self.assertIs(value in found, False)
        for value in [{"size int": 0, "align int": 0}, {"align int": 1, "size int": 1}, Machine([INT], {"int": (1, 0)})]:
            self.assertIs(value in found, True)
        for value in [
            {"size int": 0, "align int": 1}, {"size int": 2, "align int": 0}, {"size int": GREAT, "align int": 0},
            Machine([INT], {"int": (2, 0)}), Machine([INT, LONG], {"int": (0, 0), "long": (0, 0)}), Machine([Kind("int", 2)], {"int": (0, 0)}),
        ]:
            self.assertIs(value in found, False)
        self.assertIs({"size int": GREAT, "align int": 5} in region(ONE, yes()), True)

    def test_truth(self):
        self.assertIs(bool(small(ONE, 1)), True)
        self.assertIs(bool(small(ONE, 0)), False)
        self.assertIs(bool(region(ONE, yes(), [no()])), False)

    def test_operators(self):
        all_of_it, two, eight = region(ONE, yes()), small(ONE, 2), small(ONE, 8)
        self.assertEqual([(two & eight).count(), (two | eight).count(), (eight - two).count(), (two - eight).count()], [3, 10, 7, 0])
        self.assertEqual(numbers((eight - two).ascending(3)), [(2, 0), (2, 1), (2, 2), (3, 0), (3, 1), (3, 2), (3, 3)])
        self.assertTrue(two <= eight and not eight <= two and two <= two and two - eight <= two)
        self.assertTrue((all_of_it - two) | two == all_of_it and (all_of_it - two) & two == region(ONE, no()))
        changed = same_region = eight
        changed &= two
        self.assertEqual((changed, same_region), (two, eight))
        changed |= eight
        changed -= two
        self.assertEqual((changed, two.count(), eight.count()), (eight - two, 3, 10))

    def test_operators_of_other_kinds(self):
        turned, times = region(Book(LONG, INT), yes()), region(Book(INT, Kind("long")), yes())
        for other in (region(ONE, yes()), turned, times, region(Book(LONG, INT), no())):
            for call in (
                lambda: region(TWO, yes()) & other, lambda: region(TWO, yes()) | other, lambda: region(TWO, no()) - other,
                lambda: region(TWO, no()) <= other, lambda: other & region(TWO, yes()),
            ):
                self.assertEqual(raised_by(call), ("NoScale", None))

    def test_equal(self):
        self.assertTrue(region(ONE, at_most(size("r"), number(2))) == small(ONE, 1))
        self.assertFalse(small(ONE, 1) != small(ONE, 1))
        self.assertFalse(small(ONE, 1) == small(ONE, 2))
        self.assertFalse(region(ONE, no()) == region(TWO, no()))
        self.assertFalse(region(TWO, no()) == region(Book(LONG, INT), no()))
        for value in ANY:
            self.assertIs(small(ONE, 1) == value, False)

    def test_least(self):
        self.assertEqual(numbers([small(ONE, 4).least(), region(ONE, less(number(4), size("r"))).least()]), [(0, 0), (2, 0)])
        self.assertEqual(numbers([region(TWO, less(size("int"), size("long")) & less(size("long"), size("r"))).least()]), [(1, 1, 0, 0)])
        self.assertEqual(raised_by(region(ONE, no()).least), ("Barred",))

    def test_endless(self):
        self.assertEqual(small(TWO, 4).endless, ("size long", "align long"))
        self.assertEqual(region(TWO, at_most(align("int"), size("long")) & at_most(size("long"), number(12))).endless, ("size int",))
        self.assertEqual(region(ONE, no()).endless, ())
        self.assertEqual((small(ONE, 2) | region(ONE, same(align("int"), number(1)))).endless, ("size int",))

    def test_count(self):
        self.assertEqual(region(ONE, no()).count(), 0)
        self.assertEqual(raised_by(small(TWO, 4).count), ("Endless", "size long"))
        self.assertEqual(raised_by(region(TWO, yes()).count), ("Endless", "size int"))
        self.assertEqual(raised_by(region(TWO, same(align("int"), number(1)) & at_most(size("long"), number(3))).count), ("Endless", "size int"))

    def test_a_thousand_machines(self):
        # int: 2 ** 0 .. 2 ** 3 makes 10 pairs, so two kinds make 100, three make 1000.
        book = Book(Kind("a"), Kind("b"), Kind("c"))
        bounds = [at_most(size(name), number(8)) for name in "abc"]
        found = region(book, bounds[0] & bounds[1] & bounds[2])
        self.assertEqual(found.count(), 1000)
        self.assertEqual(len(list(found.ascending(1000))), 1000)
        one_more = same(size("a"), number(16)) & same(align("a"), number(16))
        for name in "bc":
            one_more = one_more & same(size(name), number(1))
        greater = found | region(book, one_more)
        self.assertEqual(raised_by(greater.count), ("TooLarge", "machines", 1000))
        self.assertEqual(len(list(greater.ascending(4))), 1001)
        great = region(book, at_most(size("a"), number(1000)) & at_most(size("b"), number(1000)) & at_most(size("c"), number(1000)))
        self.assertEqual(raised_by(great.count), ("TooLarge", "machines", 1000))

    def test_ascending(self):
        found = region(TWO, same(size("int"), align("int")) & same(size("long"), 3 * size("int")))
        self.assertEqual(numbers(found.ascending(1)), [(0, 0, 0, 0), (1, 1, 1, 0), (1, 1, 1, 1)])
        self.assertEqual(list(region(ONE, no()).ascending(1000)), [])
        for machine in found.ascending(3):
            self.assertIs(type(machine), Machine)
            self.assertIn(machine, found)
        for value in ANY + [1001, -1]:
            expected = None if is_whole(value, 0, 1000) else ("BadBound", value)
            self.assertTrue(alike(raised_by(lambda: list(small(ONE, 4).ascending(value))), expected))
            self.assertTrue(alike(raised_by(lambda: next(region(TWO, yes()).ascending(most=value))), expected))

    def test_ascending_makes_no_more_than_is_asked_for(self):
        beyond = region(TWO, less(40 * (25 * number(1000)), align("int") + size("long")))
        found = beyond.ascending(1000)
        self.assertEqual(numbers([next(found), next(found)]), [(18, 18, 18, 0), (18, 18, 18, 1)])
        self.assertEqual(numbers([beyond.least()]), [(18, 18, 18, 0)])


class Spans(unittest.TestCase):
    def test_the_document(self):
        six = told_sizes(ONE, {"r": 6})
        found = [sure(six, size("int")), sure(six, place("r", "b")), sure(ONE, align("int")), span(ONE, size("r")).low]
        self.assertEqual(found, [4, 2, None, 2])
        self.assertEqual(implied(six, "size int", "align int"), (1, 1))
        self.assertEqual(raised_by(told_sizes, ONE, {"r": 7}), ("Barred",))

    def test_ends(self):
        book = library(INT, LONG)
        book += at_most(size("int"), number(8))
        found = span(book, size("r"))
        self.assertEqual([found.low, str(found.low_machine), found.high, str(found.high_machine)], [2, "int 0 0, long 0 0", 16, "int 3 3, long 0 0"])
        self.assertEqual(set(vars(found)), {"low", "low_machine", "high", "high_machine"})
        self.assertIs(type(found), Span)
        endless = span(book=book, term=size("r") + size("long"))
        self.assertEqual([endless.low, endless.high, endless.high_machine], [5, None, None])
        self.assertEqual([bool(found), bool(endless)], [True, False])

    def test_the_least_machine_with_the_greatest_value(self):
        book = library(INT, LONG)
        book.facts = [at_most(size("int"), number(4)), at_most(size("int"), size("long"))]
        found = span(book, size("int"))
        self.assertEqual([str(found.low_machine), str(found.high_machine)], ["int 0 0, long 0 0", "int 2 0, long 1 0"])
        found = span(book, align("int") + number(5))
        self.assertEqual([found.low, found.high, str(found.high_machine)], [6, 9, "int 2 2, long 1 0"])

    def test_constant_terms(self):
        found = span(ONE, number(7) + 2 * place("r", "a"))
        self.assertEqual([found.low, found.high, str(found.low_machine), str(found.high_machine)], [7, 7, "int 0 0", "int 0 0"])
        self.assertEqual([sure(ONE, number(0)), sure(book=ONE, term=place("r", "a"))], [0, 0])

    def test_numbers_in_it(self):
        book = library(INT)
        book += at_most(size("int"), number(8))
        found, endless = span(book, size("r")), span(ONE, size("r"))
        for value in ANY:
            self.assertIs(value in found, is_whole(value, 2, 16))
            self.assertIs(value in endless, is_whole(value, 2, GREAT))

    def test_equal(self):
        self.assertTrue(span(ONE, size("r")) == span(ONE, end("r", "b") + number(0)))
        self.assertFalse(span(ONE, size("r")) == span(ONE, size("int") + size("int") + number(1)))
        self.assertFalse(span(ONE, size("r")) == span(TWO, size("r")))
        self.assertFalse(span(ONE, number(1)) != span(ONE, number(1)))
        for value in ANY:
            if not isinstance(value, Span):
                self.assertIs(span(ONE, number(1)) == value, False)

    def test_errors(self):
        great = 64 * (64 * (64 * number(4)))
        for term, expected in [
            (size("z"), ("NoName", "z")), (place("r", "c"), ("NoPath", "c", 0)), (packed("int"), ("NotRecord", "int")),
            (great, ("TooLarge", "units", 1000000)), (great + packed("int") + size("z"), ("NotRecord", "int")),
        ]:
            self.assertEqual(raised_by(span, ONE, term), expected)
            self.assertEqual(raised_by(sure, ONE, term), expected)

    def test_a_great_span(self):
        book = library(INT)
        book += same(align("int"), 64 * (64 * (64 * number(1))))
        self.assertEqual(span(book, place("r", "b")).high, 2 ** 18)
        self.assertEqual(sure(book, 3 * place("r", "b")), 3 * 2 ** 18)


class Implied(unittest.TestCase):
    def test_any_values(self):
        for value in ANY + ["size long"]:
            fine = is_text_of(value, ["byte"])
            self.assertEqual(raised_by(implied, ONE, value, "x"), ("NoScale", "x" if fine else value))
            self.assertEqual(raised_by(implied, ONE, "size int", value), None if fine else ("NoScale", value))

    def test_ends(self):
        self.assertEqual(implied(ONE, "size int", "align int"), (0, None))
        self.assertEqual(implied(book=ONE, i="align int", j="size int"), (None, 0))
        self.assertEqual(implied(ONE, "byte", "align int"), (None, 0))
        self.assertEqual([implied(TWO, name, name) for name in ("byte", "size long")], [(0, 0)] * 2)
        self.assertEqual(implied(TWO, "size int", "align long"), (None, None))
        book = library(INT, LONG)
        book += same(size("int"), number(4)) | same(2 * size("int"), align("long"))
        self.assertEqual(implied(book, "size int", "byte"), (0, None))
        book += at_most(align("long"), number(64))
        self.assertEqual([implied(book, "size int", "byte"), implied(book, "align long", "size int")], [(0, 5), (-2, 4)])


class ToldSizes(unittest.TestCase):
    def test_a_new_book(self):
        book = library(INT, LONG)
        book += at_most(align("int"), number(4))
        before = (book.names, book.facts)
        sizes = {"r": 6, "long": 12, "int": 4}
        fresh = told_sizes(book, sizes)
        sizes["int"] = 8
        told = [same(size(name), number(many)) for name, many in (("int", 4), ("long", 12), ("r", 6))]
        self.assertEqual(fresh.facts, (at_most(align("int"), number(4)),) + tuple(told))
        self.assertEqual((book.names, book.facts), before)
        self.assertEqual((fresh.kinds, fresh["r"]), (book.kinds, book["r"]))
        fresh.set_facts([])
        self.assertEqual(book.facts, before[1])
        self.assertTrue(told_sizes(book=book, sizes={}) == book)

    def test_errors(self):
        for value in ANY + [1001]:
            if is_whole(value, 0, 1000):
                self.assertIn(raised_by(told_sizes, ONE, {"int": value}), (None, ("Barred",)))
            else:
                self.assertTrue(alike(raised_by(told_sizes, ONE, {"int": value}), ("BadBound", value)))
                self.assertTrue(alike(raised_by(told_sizes, ONE, {"z": 0, "int": value}), ("BadBound", value)))
        for name in ("", "z", "int ", "size int", "long", "R"):
            self.assertEqual(raised_by(told_sizes, ONE, {name: None}), ("NoName", name))
        self.assertEqual(raised_by(told_sizes, ONE, {"z": 1, "r": 7, "a": None}), ("NoName", "a"))
        self.assertEqual(raised_by(told_sizes, ONE, {"z": 1, "r": 7}), ("NoName", "z"))
        self.assertEqual(raised_by(told_sizes, ONE, {"r": 7}), ("Barred",))
        self.assertEqual(raised_by(told_sizes, ONE, {"r": 0}), ("Barred",))
        great = library(INT)
        great["s"] = Byte() * 64 * 64 * 64 * 4
        self.assertEqual(raised_by(told_sizes, great, {"s": 1, "r": 7}), ("TooLarge", "units", 1000000))

    def test_several_claims(self):
        self.assertFalse(stands_in("r", "r") == yes())
        self.assertEqual(sure(told_sizes(TWO, {"long": 24, "int": 2}), size("long") + size("int")), 26)


if __name__ == "__main__":
    unittest.main()
