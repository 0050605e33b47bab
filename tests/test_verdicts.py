"""Points 27 and 28: decisions, by hand."""

import unittest

from anypads.books import Book
from anypads.claims import Claim, at_most, least_order, less, no, no_gap, no_tail, same, stands_in, told, yes
from anypads.errors import PadError
from anypads.looker import is_tree, shows_always, shows_least, shows_nothing
from anypads.machines import Machine
from anypads.parts import Byte, Kind, Record, Row, Use
from anypads.terms import align, end, number, packed, place, size
from anypads.trees import depth_of, leaf_of, leaves, size_of
from anypads.verdicts import Always, Breaks, Nothing, Verdict, decide, verdicts
from tests.values import ANY, raised_by

SHORT, INT = Kind("short"), Kind("int")
NATURAL = [same(size(name), align(name)) for name in ("short", "int")]
SAME = same(place("p", "y"), place("q", "y"))


def library():
    book = Book(SHORT, INT)
    book["p"] = Record([("x", SHORT), ("y", INT)])
    book["q"] = Record([("x", SHORT), ("z", SHORT), ("y", INT)])
    return book


def machine(*numbers):
    return Machine([SHORT, INT], {"short": numbers[:2], "int": numbers[2:]})


BOOK = library()


class Words(unittest.TestCase):
    def test_classes(self):
        for verdict, shape, word, found in [
            (decide(BOOK, yes()), Always, "always", None), (decide(BOOK, no()), Breaks, "breaks", machine(0, 0, 0, 0)),
            (decide(BOOK, yes(), [no()]), Nothing, "nothing", None), (decide(BOOK, no(), [no()]), Nothing, "nothing", None),
        ]:
            self.assertIs(type(verdict), shape)
            self.assertIsInstance(verdict, Verdict)
            self.assertEqual((verdict.word, verdict.machine, bool(verdict)), (word, found, word == "always"))
            self.assertIs(bool(verdict), word == "always")
            self.assertIs(is_tree(BOOK, verdict.tree), True)
            self.assertEqual(set(vars(verdict)), {"word", "machine", "tree"})
        self.assertEqual(Verdict.WORDS, ("always", "breaks", "nothing"))
        self.assertEqual(vars(Verdict)["WORDS"], ("always", "breaks", "nothing"))

    def test_repr(self):
        self.assertEqual(repr(decide(BOOK, yes())), "always")
        self.assertEqual(repr(decide(BOOK, yes(), [no()])), "nothing")
        self.assertEqual(repr(decide(BOOK, at_most(size("short"), size("int")))), "breaks short 1 0, int 0 0")

    def test_equal(self):
        one, other = decide(BOOK, yes()), decide(BOOK, SAME, [less(size("short"), align("int"))])
        self.assertNotEqual(one.tree, other.tree)
        self.assertTrue(one == other)
        self.assertFalse(one != other)
        self.assertTrue(decide(BOOK, no()) == decide(BOOK, SAME))
        self.assertFalse(decide(BOOK, no()) == decide(BOOK, at_most(size("short"), size("int"))))
        self.assertFalse(decide(BOOK, yes()) == decide(BOOK, yes(), [no()]))
        for thing in ANY:
            if not isinstance(thing, Verdict):
                self.assertIs(one == thing, False)


class Errors(unittest.TestCase):
    def test_any_values(self):
        for thing in ANY:
            if not isinstance(thing, Claim):
                self.assertEqual(raised_by(decide, BOOK, thing), ("NoClaim", 0))
                self.assertEqual(raised_by(decide, BOOK, thing, [None]), ("NoClaim", 0))
                self.assertEqual(raised_by(decide, BOOK, yes(), [no(), thing, None]), ("NoClaim", 2))
                self.assertEqual(raised_by(lambda: list(verdicts(BOOK, [yes(), thing]))), ("NoClaim", 1))
                self.assertEqual(raised_by(lambda: list(verdicts(BOOK, (), (thing,)))), ("NoClaim", 0))
                self.assertEqual(raised_by(lambda: list(verdicts(BOOK, (yes(), no()), (yes(), thing)))), ("NoClaim", 3))

    def test_the_order(self):
        for claim, given, expected in [
            (no_tail("z"), [None], ("NoClaim", 1)), (no_tail("z"), [no_tail("short")], ("NoName", "z")),
            (yes(), [no_tail("short"), no_tail("z")], ("NotRecord", "short")), (yes(), [no_gap("p", "z"), no_tail("z")], ("NoPath", "z", 0)),
            (no_gap("p", "x.x"), [no_tail("z")], ("NoPath", "x.x", 1)), (stands_in("a", "b"), [], ("NoName", "a")),
            (same(packed("int"), size("z")), [], ("NotRecord", "int")), (less(end("q", "w"), size("z")), [], ("NoPath", "w", 0)),
        ]:
            self.assertEqual(raised_by(decide, BOOK, claim, given), expected)
            self.assertEqual(raised_by(lambda: next(verdicts(BOOK, [claim], given))), expected)
            if not given:
                self.assertEqual(raised_by(decide, BOOK, yes(), [claim]), expected)

    def test_units(self):
        great = 40 * (64 * (64 * size("q")))
        self.assertIsNone(raised_by(decide, BOOK, at_most(great, great)))
        more = 64 * (64 * (64 * number(4)))
        self.assertEqual(raised_by(decide, BOOK, same(number(1), more)), ("TooLarge", "units", 1000000))
        self.assertEqual(raised_by(decide, BOOK, same(more, size("z"))), ("NoName", "z"))
        self.assertEqual(raised_by(decide, BOOK, same(more, more), [no_tail("z")]), ("TooLarge", "units", 1000000))
        exact = 40 * (25 * number(1000))
        self.assertIsNone(raised_by(decide, BOOK, same(exact, exact)))
        self.assertEqual(raised_by(decide, BOOK, same(exact + number(1), exact)), ("TooLarge", "units", 1000000))

    def test_errors_ahead_of_the_first_one(self):
        found = verdicts(BOOK, [yes(), no_tail("z")])
        with self.assertRaises(PadError):
            next(found)
        self.assertEqual(list(verdicts(BOOK, [])), [])

    def test_arguments(self):
        self.assertEqual(decide(book=BOOK, claim=SAME, given=tuple(NATURAL)), decide(BOOK, SAME, NATURAL))
        found = verdicts(book=BOOK, claims=(SAME, no()), given=NATURAL)
        self.assertEqual([repr(each) for each in found], ["breaks short 0 0, int 0 0"] * 2)


class Decided(unittest.TestCase):
    def look(self, claim, given, expected, book=BOOK):
        verdict = decide(book, claim, given)
        self.assertEqual(repr(verdict), expected)
        if verdict.word == "always":
            self.assertTrue(shows_always(book, claim, verdict.tree, given))
        elif verdict.word == "nothing":
            self.assertTrue(shows_nothing(book, verdict.tree, given))
        else:
            self.assertTrue(shows_least(book, claim, verdict.machine, verdict.tree, given))
        self.assertEqual([repr(each) for each in verdicts(book, [claim], given)], [expected])

    def test_the_document(self):
        self.look(SAME, NATURAL, "breaks short 0 0, int 0 0")
        self.look(SAME, NATURAL + [less(size("short"), size("int"))], "always")
        self.look(at_most(size("short"), size("int")), [], "breaks short 1 0, int 0 0")
        self.look(SAME, [less(size("int"), align("int"))], "nothing")

    def test_scales(self):
        self.look(at_most(align("int"), size("int")), [], "always")
        self.look(at_most(size("int"), align("int")), [], "breaks short 0 0, int 1 0")
        self.look(at_most(size("int"), number(1000)), [], "breaks short 0 0, int 10 0")
        self.look(at_most(align("short"), 64 * (64 * number(63))), [], "breaks short 18 18, int 0 0")
        self.look(at_most(size("int"), 8 * align("short")) | at_most(size("short"), align("int")), [], "breaks short 1 0, int 4 0")

    def test_given_claims_that_contradict(self):
        book = library()
        book += at_most(size("int"), number(4))
        self.look(yes(), [less(number(4), size("int"))], "nothing", book)
        self.look(yes(), [less(size("short"), size("int")), less(size("int"), size("short"))], "nothing")
        self.look(no(), [less(size("int"), size("short"))], "breaks short 1 0, int 0 0", book)
        self.look(at_most(size("int"), number(4)), [], "always", book)
        self.look(at_most(size("int"), number(2)), [], "breaks short 0 0, int 2 0", book)

    def test_claims_that_are_not_told_without_a_question(self):
        open_claim = less(size("short"), size("int"))
        self.look(open_claim | ~open_claim, [], "always")
        self.look(open_claim & ~open_claim, [], "breaks short 0 0, int 0 0")
        self.look(~(open_claim | ~open_claim), [], "breaks short 0 0, int 0 0")
        self.look(yes(), [open_claim & ~open_claim], "nothing")

    def test_the_four_sorts(self):
        self.look(no_gap("p", "x"), [], "always")
        self.look(no_gap("p", "y"), [], "breaks short 0 0, int 1 1")
        self.look(no_gap("p", "y"), [at_most(align("int"), align("short"))], "always")
        self.look(no_gap("p", "y"), [at_most(align("int"), size("short"))], "always")
        self.look(no_tail("p"), [], "breaks short 1 1, int 0 0")
        self.look(no_tail("p"), [same(align("short"), align("int"))], "always")
        self.look(no_tail("q"), [at_most(align("short"), align("int"))], "always")
        self.look(least_order("p"), [], "always")
        self.look(least_order("q"), [], "always")
        self.look(stands_in("q", "p"), [], "breaks short 0 0, int 0 0")
        self.look(stands_in("p", "q"), [], "breaks short 0 0, int 0 0")
        self.look(stands_in("p", "p") & stands_in("short", "int"), [], "always")

    def test_uses(self):
        book = library()
        book["r"] = Record([("a", Byte()), ("p", Use("p")), ("rows", Row(Use("q"), 3))])
        self.look(same(place("r", "p"), align("p")), [], "always", book)
        self.look(same(place("r", "rows.1"), place("r", "rows.0") + size("q")), [], "always", book)
        self.look(at_most(size("r"), 4 * size("q")), [], "breaks short 0 0, int 1 1", book)
        self.look(same(end("r", "rows"), place("r", "rows.2.y") + size("int")), [], "breaks short 1 1, int 0 0", book)

    def test_the_tree_decides(self):
        for claim, given in [(SAME, NATURAL), (SAME, []), (least_order("p") & no_tail("q"), [no_gap("q", "y")]), (no(), [])]:
            tree = decide(BOOK, claim, given).tree
            self.assertLess(depth_of(tree), 100)
            for zone in leaves(BOOK, tree):
                facts = [told(BOOK, fact, zone) for fact in given]
                self.assertTrue(False in facts or None not in facts + [told(BOOK, claim, zone)])

    def test_trees_have_no_leaves_that_play_no_part(self):
        tree = decide(BOOK, SAME).tree
        self.assertEqual(len(list(leaves(BOOK, tree))), size_of(tree) + 1)
        self.assertEqual(leaf_of(BOOK, tree, machine(0, 0, 9, 9)), list(leaves(BOOK, tree))[-1])

    def test_no_question_that_is_not_needed(self):
        self.assertEqual(decide(BOOK, at_most(place("p", "x"), size("q"))).tree[0], "ask")
        self.assertEqual(decide(BOOK, at_most(place("p", "x"), size("int"))).tree, ("leaf",))
        self.assertEqual(decide(BOOK, yes()).tree, ("leaf",))


class Great(unittest.TestCase):
    """What point 2 allows comes to an answer without all orders and ratios."""

    def test_three_hundred_comparisons(self):
        book = Book(Kind("a"), Kind("b", 3), Kind("c"))
        fields = [Kind("a"), Byte(), Kind("c"), Kind("b", 3), Kind("a"), Byte() * 5, Kind("c") * 2]
        for at, name in enumerate("pqrstuvwxyz"):
            book[name] = Record([(letter, part) for letter, part in zip("abcdefg", fields[at % 7:] + fields[:at % 7])])
        natural = [same(size("a"), align("a")), same(size("b"), 3 * align("b")), same(size("c"), align("c"))]
        claim = yes()
        for name in book.names:
            paths = list(book[name].paths())
            for path, later in zip(paths, paths[1:] + paths[:1]):
                claim = claim & at_most(place(name, path), end(name, path)) & at_most(end(name, path), size(name))
                claim = claim & (at_most(place(name, path), place(name, later)) | same(place(name, later), number(0)))
        self.assertEqual(str(claim).count("="), 308)
        book.facts = natural[:1]
        verdict = decide(book, claim, natural[1:])
        self.assertEqual(verdict.word, "always")
        self.assertTrue(shows_always(book, claim, verdict.tree, natural[1:]))

    def test_a_million_units(self):
        book = Book(Kind("a"), Kind("b"))
        many = Row(Row(Row(Byte(), 63), 61), 59)
        book["p"] = Record([("x", many), ("y", Kind("a")), ("z", Kind("b"))])
        book += same(size("b"), align("b"))
        verdict = decide(book, same(4 * place("p", "y"), 4 * size("b")), [less(number(1000), align("a"))])
        self.assertEqual(repr(verdict), "breaks a 10 10, b 0 0")
        self.assertEqual(repr(decide(book, less(place("p", "y"), number(1000) * 64 * 4))), "breaks a 16 16, b 0 0")

    def test_joined_by_and_or_not(self):
        book = library()
        claim, steps = no(), [SAME, no_gap("p", "y"), no_tail("q"), less(size("short"), align("int")), least_order("q")]
        for at in range(300):
            claim = [claim | steps[at % 5], ~claim & steps[at % 3], ~claim][at % 3]
        machines = [machine(*numbers) for numbers in ((0, 0, 0, 0), (0, 0, 1, 1), (1, 1, 0, 0), (1, 0, 2, 1), (2, 2, 3, 3))]
        for asked in (claim, ~claim):
            verdict = decide(book, asked)
            if asked is claim:
                self.assertTrue(shows_always(book, asked, verdict.tree))
            else:
                self.assertTrue(shows_least(book, asked, verdict.machine, verdict.tree))
            for each in machines:
                self.assertIn(told(book, asked, leaf_of(book, verdict.tree, each)), (True, False))


if __name__ == "__main__":
    unittest.main()
