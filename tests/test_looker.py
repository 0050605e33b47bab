"""Point 29: what trees and machines show."""

import random
import unittest
from unittest import mock

from anypads.books import Book
from anypads.claims import Claim, at_most, holds, less, no, no_gap, no_tail, same, told, yes
from anypads.looker import is_tree, shows_always, shows_breaks, shows_least, shows_nothing
from anypads.machines import Machine
from anypads.parts import Kind, Record
from anypads.terms import align, number, packed, place, size
from anypads.trees import LEAF, ask, grafted
from anypads.verdicts import decide
from anypads.zones import Zone
from tests.drawn import KINDS, by_order, drawn_book, drawn_claim, machines_up_to
from tests.values import ANY, raised_by

I, D = Kind("i"), Kind("d")
TREE = ("ask", "size i", "align d", -1, LEAF, LEAF)


def library():
    book = Book(I, D)
    book["p"] = Record([("x", I), ("y", D)])
    book["q"] = Record([("x", I), ("z", I), ("y", D)])
    return book


BOOK = library()
ONE = same(place("p", "y"), place("q", "y"))
FIRST = Machine([I, D], {"i": (0, 0), "d": (0, 0)})


def deep(depth, leaf=LEAF):
    tree = leaf
    for _ in range(depth):
        tree = ("ask", "size i", "size d", 0, tree, LEAF)
    return tree


class Trees(unittest.TestCase):
    def test_trees(self):
        for tree in (LEAF, TREE, ("leaf",), ask("byte", "align i", 2000, TREE, LEAF), grafted(TREE, TREE), deep(200)):
            self.assertIs(is_tree(BOOK, tree), True)
        self.assertIs(is_tree(book=BOOK, thing=TREE), True)

    def test_any_values(self):
        for value in ANY:
            self.assertIs(is_tree(BOOK, value), value == ("leaf",) and isinstance(value, tuple))
            for at in range(6):
                bent = TREE[:at] + (value,) + TREE[at + 1:]
                fine = bent == TREE or (at > 3 and value == LEAF) or (at == 3 and type(value) is int and -2000 <= value <= 2000)
                fine = fine or (at in (1, 2) and isinstance(value, str) and value == "byte")
                self.assertIs(is_tree(BOOK, bent), fine, (at, value))

    def test_bent_trees(self):
        for tree in [
            list(TREE), TREE + (LEAF,), TREE[:5], ("ask",), ("leaf", "leaf"), "leaf", ["leaf"], (), ("asks",) + TREE[1:],
            ("ask", "size i", "size i", 0, LEAF, LEAF), ("ask", "byte", "byte", 0, LEAF, LEAF), ("ask", "size x", "byte", 0, LEAF, LEAF),
            ("ask", "size i", "align d", 2001, LEAF, LEAF), ("ask", "size i", "align d", -2001, LEAF, LEAF),
            ("ask", "size i", "align d", True, LEAF, LEAF), ("ask", "i", "align d", 0, LEAF, LEAF), (("leaf",),), (True,),
            ("ask", "size i", "align d", 0, LEAF, ("ask", "size i", "align d", 0, LEAF, "leaf")), deep(200, ("leave",)), deep(199, None),
        ]:
            self.assertIs(is_tree(BOOK, tree), False, tree)
            for shows in (lambda: shows_always(BOOK, yes(), tree), lambda: shows_nothing(BOOK, tree, [no()])):
                self.assertIs(shows(), False)
            self.assertIs(shows_least(BOOK, no(), FIRST, tree), False)

    def test_numbers_at_the_end(self):
        for c in (2000, -2000):
            self.assertIs(is_tree(BOOK, ("ask", "byte", "align d", c, LEAF, LEAF)), True)

    def test_other_kinds(self):
        self.assertIs(is_tree(Book(I), TREE), False)
        self.assertIs(is_tree(Book(D, I), TREE), True)


class Shown(unittest.TestCase):
    def test_the_document(self):
        given = [less(size("i"), align("d"))]
        found = [shows_always(BOOK, ONE, TREE, given), shows_always(BOOK, ONE, TREE), shows_always(BOOK, ONE, LEAF, given)]
        self.assertEqual(found, [True, False, False])
        self.assertIs(shows_least(BOOK, ONE, FIRST, LEAF), True)
        self.assertIs(shows_nothing(BOOK, LEAF, [less(size("d"), align("d"))]), True)

    def test_any_things(self):
        for value in ANY:
            self.assertIs(shows_always(BOOK, yes(), value), value == LEAF and isinstance(value, tuple))
            self.assertIs(shows_nothing(BOOK, value, [no()]), value == LEAF and isinstance(value, tuple))
            self.assertIs(shows_nothing(BOOK, value), False)
            self.assertIs(shows_least(BOOK, no(), FIRST, value), value == LEAF and isinstance(value, tuple))
            self.assertIs(shows_least(BOOK, no(), value, LEAF), False)
            self.assertIs(shows_breaks(BOOK, no(), value), False)

    def test_any_claims(self):
        for value in ANY:
            if isinstance(value, Claim):
                continue
            for call in (
                lambda: shows_always(BOOK, value, None), lambda: shows_breaks(BOOK, value, None), lambda: shows_least(BOOK, value, None, None),
                lambda: shows_always(BOOK, value, LEAF, [None]),
            ):
                self.assertEqual(raised_by(call), ("NoClaim", 0))
            for call in (
                lambda: shows_always(BOOK, yes(), None, [value]), lambda: shows_breaks(BOOK, yes(), None, (value,)),
                lambda: shows_least(BOOK, yes(), None, None, [value, None]), lambda: shows_nothing(BOOK, None, [value]),
                lambda: shows_nothing(BOOK, LEAF, (value, None)),
            ):
                self.assertEqual(raised_by(call), ("NoClaim", 1))
            self.assertEqual(raised_by(shows_nothing, BOOK, LEAF, [yes(), value]), ("NoClaim", 2))

    def test_the_order_of_errors(self):
        great = 64 * (64 * (64 * number(4)))
        for claim, given, expected in [
            (no_tail("z"), [None], ("NoClaim", 1)), (no_tail("z"), [no_tail("i")], ("NoName", "z")), (yes(), [no_tail("i")], ("NotRecord", "i")),
            (no_gap("p", "w"), [no_tail("i")], ("NoPath", "w", 0)), (yes(), [same(great, packed("d"))], ("NotRecord", "d")),
            (yes(), [same(great, great), no_tail("i")], ("TooLarge", "units", 1000000)),
        ]:
            for thing in (None, LEAF, TREE):
                self.assertEqual(raised_by(shows_always, BOOK, claim, thing, given), expected)
                self.assertEqual(raised_by(shows_breaks, BOOK, claim, thing, given), expected)
                self.assertEqual(raised_by(shows_least, BOOK, claim, thing, thing, given), expected)
                if claim == yes():
                    self.assertEqual(raised_by(shows_nothing, BOOK, thing, given), expected)

    def test_machines(self):
        claim = at_most(size("i"), size("d"))
        great = Machine([I, D], {"i": (9, 0), "d": (2, 2)})
        self.assertIs(shows_breaks(BOOK, claim, great), True)
        self.assertIs(shows_breaks(BOOK, claim, FIRST), False)
        book = library()
        book += same(size("i"), align("i"))
        self.assertIs(shows_breaks(book, claim, great), False)
        self.assertIs(shows_breaks(BOOK, claim, great, [same(size("i"), align("i"))]), False)
        self.assertIs(shows_breaks(book, claim, Machine([I, D], {"i": (9, 9), "d": (2, 2)})), True)
        turned = Machine([D, I], {"i": (9, 9), "d": (2, 2)})
        times = Machine([I, Kind("d", 2)], {"i": (9, 9), "d": (2, 2)})
        alone = Machine([I], {"i": (9, 9)})
        for machine in (turned, times, alone):
            self.assertIs(shows_breaks(BOOK, no(), machine), False)
            self.assertIs(shows_least(BOOK, no(), machine, LEAF), False)

    def test_least(self):
        claim = at_most(size("i"), size("d"))
        verdict = decide(BOOK, claim)
        self.assertIs(shows_least(BOOK, claim, verdict.machine, verdict.tree), True)
        self.assertIs(shows_least(BOOK, claim, verdict.machine, LEAF), False)
        greater = Machine([I, D], {"i": (2, 0), "d": (0, 0)})
        self.assertIs(shows_breaks(BOOK, claim, greater), True)
        self.assertIs(shows_least(BOOK, claim, greater, verdict.tree), False)
        # One that has been asked for more, but is not the least, is still not the least.
        self.assertIs(shows_least(BOOK, claim, greater, grafted(verdict.tree, TREE)), False)
        self.assertIs(shows_least(BOOK, claim, verdict.machine, grafted(TREE, verdict.tree)), True)

    def test_leaves_without_a_machine_play_no_part(self):
        lost = ("ask", "align i", "size i", 0, LEAF, LEAF)
        self.assertIs(shows_nothing(BOOK, lost, [less(size("d"), align("d"))]), True)
        claim = at_most(size("i"), size("d"))
        tree = ("ask", "size i", "size d", 0, LEAF, ("ask", "size i", "size d", 5, LEAF, LEAF))
        self.assertIs(shows_always(BOOK, claim, tree, [claim]), True)
        self.assertIs(shows_always(BOOK, claim, deep(200), [claim]), True)

    def test_nothing_is_laid_out_and_nothing_is_searched_for(self):
        verdict = decide(BOOK, ONE, [less(size("i"), align("d"))])
        given = [less(size("i"), align("d"))]
        with mock.patch("anypads.layout.Layout.__init__", side_effect=AssertionError):
            with mock.patch("anypads.splitting.looked_at", side_effect=AssertionError):
                self.assertIs(shows_always(BOOK, ONE, verdict.tree, given), True)
                self.assertIs(shows_nothing(BOOK, verdict.tree, [no()]), True)
                self.assertIs(is_tree(BOOK, verdict.tree), True)
                self.assertRaises(AssertionError, shows_breaks, BOOK, ONE, FIRST)

    def test_great_numbers_in_trees(self):
        tree = LEAF
        for _ in range(100):
            for i, j in (("size i", "byte"), ("size d", "size i")):
                tree = ("ask", i, j, 2000, LEAF, tree)
        self.assertIs(shows_always(BOOK, at_most(place("p", "x"), size("q")), tree), False)
        self.assertIs(shows_least(BOOK, no(), FIRST, tree), True)
        self.assertIs(shows_always(BOOK, yes(), tree), True)


def plainly_tree(book, thing):
    """Whether any value is a tree, by the words of point 27."""
    if not isinstance(thing, tuple):
        return False
    if len(thing) == 1:
        return thing[0] == "leaf"
    if len(thing) != 6 or thing[0] != "ask" or type(thing[3]) is not int or not -2000 <= thing[3] <= 2000:
        return False
    names = ["byte"] + [f"{word} {kind.name}" for kind in book.kinds for word in ("size", "align")]
    known = all(isinstance(name, str) and name in names for name in thing[1:3])
    return known and thing[1] != thing[2] and plainly_tree(book, thing[4]) and plainly_tree(book, thing[5])


def plainly_leaves(zone, tree):
    """The zones of the leaves that have a machine."""
    if tree == LEAF:
        return [zone] if zone else []
    _, i, j, c, yes_tree, no_tree = tree
    inside, outside = zone.sides(i, j, c)
    return plainly_leaves(inside, yes_tree) + plainly_leaves(outside, no_tree)


class Plainly:
    """What is shown, by the words of point 29."""

    def __init__(self, book, claim, given):
        self.book, self.claim, self.facts = book, claim, list(book.facts) + given

    def leaves(self, tree):
        return plainly_leaves(Zone.of(self.book.kinds), tree)

    def is_false(self, zone):
        return any(told(self.book, fact, zone) is False for fact in self.facts)

    def always(self, tree):
        if not plainly_tree(self.book, tree):
            return False
        return all(self.is_false(zone) or told(self.book, self.claim, zone) is True for zone in self.leaves(tree))

    def nothing(self, tree):
        return plainly_tree(self.book, tree) and all(self.is_false(zone) for zone in self.leaves(tree))

    def breaks(self, machine):
        return all(holds(self.book, fact, machine) for fact in self.facts) and not holds(self.book, self.claim, machine)

    def least(self, machine, tree):
        if not self.breaks(machine) or not plainly_tree(self.book, tree):
            return False
        for zone in self.leaves(tree):
            numbers = list(zone.least().values())
            fine = self.is_false(zone) or told(self.book, self.claim, zone) is True
            if not fine and (max(numbers), numbers) < by_order(machine):
                return False
        return True


def bent(rng, tree, names):
    """The tree with a change at one place."""
    if tree == LEAF:
        return rng.choice([ask(*rng.sample(names, 2), rng.randint(-2, 2), LEAF, LEAF), LEAF, ("leaf", LEAF), ("leave",)])
    word, i, j, c, yes_tree, no_tree = tree
    choice = rng.randint(0, 9)
    if choice < 3:
        return (word, i, j, c, bent(rng, yes_tree, names), no_tree)
    if choice < 6:
        return (word, i, j, c, yes_tree, bent(rng, no_tree, names))
    return [
        LEAF, (word, i, j, c + rng.choice([-1, 1, 2000]), yes_tree, no_tree), (word, j, i, c, yes_tree, no_tree),
        (word, i, j, c, no_tree, yes_tree), (word, rng.choice(names + ["size z", i]), j, c, yes_tree, no_tree),
    ][rng.randint(0, 4)]


class Drawn(unittest.TestCase):
    def test_trees_of_decide_and_bent_ones(self):
        rng = random.Random(29)
        counts = {}
        for _ in range(110):
            kinds = KINDS[:rng.choice([1, 2, 2, 3])]
            book = drawn_book(rng, kinds, 1)
            claim, given = drawn_claim(rng, book), [drawn_claim(rng, book) for _ in range(rng.randint(0, 2))]
            verdict = decide(book, claim, given)
            plainly, names = Plainly(book, claim, given), list(Zone.of(kinds).order)
            machines = rng.sample(machines_up_to(kinds, 2 if len(kinds) < 3 else 1), 3)
            machines += [verdict.machine] if verdict.machine else []
            tree = verdict.tree
            for _ in range(6):
                self.assertIs(is_tree(book, tree), plainly_tree(book, tree))
                answers = [shows_always(book, claim, tree, given), shows_nothing(book, tree, given)]
                self.assertEqual(answers, [plainly.always(tree), plainly.nothing(tree)])
                for machine in machines:
                    self.assertIs(shows_breaks(book, claim, machine, given), plainly.breaks(machine))
                    answers.append(shows_least(book, claim, machine, tree, given))
                    self.assertIs(answers[-1], plainly.least(machine, tree))
                key = (verdict.word, tree == verdict.tree, True in answers)
                counts[key] = counts.get(key, 0) + 1
                tree = bent(rng, verdict.tree, names)
        for word in ("always", "breaks", "nothing"):
            self.assertEqual(counts.get((word, True, False), 0), 0)
            for shown in (True, False):
                self.assertGreater(counts[word, False, shown], 8)


if __name__ == "__main__":
    unittest.main()
