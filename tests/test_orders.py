"""Points 32 and 33: orders of fields, and the fewest that cover."""

import itertools
import random
import unittest

from anypads.books import Book
from anypads.claims import at_most, holds, less, same
from anypads.errors import Barred
from anypads.looker import is_tree
from anypads.machines import Machine
from anypads.orders import fewest_orders, is_valley, least_orders, ordered, shows_orders, waste
from anypads.parts import Byte, Kind, Overlay, Record, Row, Use
from anypads.terms import align, number, size
from anypads.trees import LEAF, ask, grafted, leaf_of, nodes_of
from tests.drawn import KINDS, drawn_part, machines_up_to
from tests.values import ANY, raised_by

A, B, C = Kind("a"), Kind("b"), Kind("c")
ABC = Record([("x", A), ("y", B), ("z", C)])


def natural(book):
    return [same(size(kind.name), align(kind.name)) for kind in book.kinds]


def library(part=ABC, facts=True):
    book = Book(A, B, C)
    book.facts = natural(book) if facts else []
    book["r"] = part
    return book


def machine(*powers):
    """The machine on which the kinds have sizes and alignments of these exponents."""
    return Machine([A, B, C], {name: (power, power) for name, power in zip("abc", powers)})


BOOK = library()
PAPER = fewest_orders(BOOK, "r")


class Orders(unittest.TestCase):
    def test_ordered(self):
        self.assertEqual(str(ordered(ABC, (2, 0, 1))), "{z:c x:a y:b}")
        self.assertEqual(ordered(record=ABC, order=[0, 1, 2]), ABC)
        self.assertEqual(str(ordered(Record([("x", Use("p")), ("y", Byte())]), [1, 0])), "{y:byte x:@p}")
        self.assertEqual(str(ordered(Record([("x", A)]), (0,))), "{x:a}")

    def test_waste(self):
        found = [waste(machine(0, 1, 0), ABC, order) for order in itertools.permutations(range(3))]
        self.assertEqual(found, [2, 0, 0, 0, 0, 2])
        self.assertEqual(waste(machine=machine(0, 1, 0), record=ABC, order=[0, 1, 2]), 2)
        self.assertEqual(waste(machine(2, 0, 0), Record([("x", Byte()), ("y", A), ("z", Byte() * 3)]), (1, 0, 2)), 0)

    def test_is_valley(self):
        for order, found in [((0, 1, 2), False), ((0, 2, 1), True), ((1, 0, 2), True), ((2, 1, 0), False)]:
            self.assertIs(is_valley(machine(0, 1, 0), ABC, order), found)
        for order in itertools.permutations(range(3)):
            self.assertIs(is_valley(machine(1, 1, 1), ABC, order), True)
        self.assertIs(is_valley(machine=machine(1, 0, 1), record=ABC, order=[0, 1, 2]), True)
        self.assertIs(is_valley(machine(0, 2, 1), ABC, (0, 2, 1)), True)
        # Not next to one another.
        four = Record([("x", A), ("y", B), ("z", B), ("w", A)])
        self.assertIs(is_valley(machine(0, 1, 0), four, (0, 1, 2, 3)), False)

    def test_valleys_are_least_but_not_they_alone(self):
        rng = random.Random(32)
        others = 0
        for _ in range(60):
            record = Record(list(zip("wxyz", [drawn_part(rng, [A, B, C], 1) for _ in range(rng.randint(1, 4))])))
            for _ in range(6):
                pairs = [rng.choice([(0, 0), (1, 0), (1, 1), (2, 1), (2, 2), (3, 0)]) for _ in range(3)]
                here = Machine([A, B, C], dict(zip("abc", pairs)))
                for order in itertools.permutations(range(len(record))):
                    wasted, valley = waste(here, record, order), is_valley(here, record, order)
                    self.assertGreaterEqual(wasted, 0)
                    self.assertFalse(valley and wasted)
                    others += not wasted and not valley
                falling = sorted(range(len(record)), key=lambda at: -here.align(record.fields[at][1]))
                self.assertEqual(waste(here, record, falling), 0)
        self.assertGreater(others, 20)

    def test_no_record(self):
        here = machine(0, 0, 0)
        for value in ANY:
            if not isinstance(value, Record):
                for call in (lambda: ordered(value, None), lambda: waste(here, value, None), lambda: is_valley(here, value, (0,))):
                    self.assertEqual(raised_by(call), ("NotRecord", None))

    def test_no_order(self):
        here = machine(0, 0, 0)
        for order, at in [
            ((0, 1), None), ((0, 1, 2, 0), None), ((), None), ({0: 0, 1: 1, 2: 2}, None), ("012", None), ((0, 0, 1), 1), ([0, 1, 1], 2),
            ((0, 3, 1), 1), ((-1, 0, 1), 0), ((True, 0, 2), 0), ((1, False, 2), 1), ((0, None, None), 1), ([[0], 1, 2], 0), ((0, 1, "2"), 2),
            ((2, 0, 2), 2), (range(3), None),
        ]:
            for call in (lambda: ordered(ABC, order), lambda: waste(here, ABC, order), lambda: is_valley(here, ABC, order)):
                self.assertEqual(raised_by(call), ("NoOrder", at))
        for value in ANY:
            fine = isinstance(value, (list, tuple)) and len(value) == 1 and type(value[0]) is int and value[0] == 0
            one = ("NoOrder", 0) if isinstance(value, (list, tuple)) and len(value) == 1 else ("NoOrder", None)
            self.assertEqual(raised_by(ordered, Record([("a", A)]), value), None if fine else one)

    def test_the_errors_of_size(self):
        here = machine(0, 0, 0)
        for call in (waste, is_valley):
            part = Record([("a", Use("q")), ("b", Use("p")), ("c", Kind("z"))])
            self.assertEqual(raised_by(call, here, part, (0, 1)), ("NoOrder", None))
            self.assertEqual(raised_by(call, here, part, (2, 1, 0)), ("Unresolved", "p"))
            self.assertEqual(raised_by(call, here, Record([("c", Kind("z")), ("a", Kind("a", 2))]), (1, 0)), ("NoScale", "size a"))


class Papers(unittest.TestCase):
    def test_the_document(self):
        self.assertEqual(PAPER[0], ((0, 1, 2), (0, 2, 1)))
        self.assertIs(shows_orders(BOOK, "r", PAPER), True)
        self.assertIs(type(PAPER), tuple)
        self.assertIs(type(PAPER[2]), list)

    def test_numbers_of_fields(self):
        self.assertEqual(fewest_orders(library(Record([("x", A)])), "r")[0], ((0,),))
        self.assertEqual(fewest_orders(library(Record([("x", A), ("y", B)])), "r")[0], ((0, 1),))
        self.assertEqual(fewest_orders(library(Record(list(zip("wxyz", [A, B, A, B])))), "r")[0], ((0, 2, 1, 3),))
        four = Record(list(zip("wxyz", [A, B, C, Byte()])))
        self.assertEqual(fewest_orders(library(four), "r")[0], ((0, 1, 3, 2), (1, 0, 3, 2)))
        self.assertEqual(fewest_orders(library(four, False), "r")[0], ((0, 1, 3, 2), (1, 0, 3, 2)))
        for call in (lambda book: least_orders(book, "r"), lambda book: fewest_orders(book, "r"), lambda book: shows_orders(book, "r", None)):
            five = library(Record(list(zip("vwxyz", [A] * 5))))
            self.assertEqual(raised_by(call, five), ("TooLarge", "fields", 4))

    def test_names(self):
        book = library()
        book["u"] = Use("r")
        book["o"] = Overlay([("x", A)])
        book["rows"] = Row(Use("r"), 2)
        book["k"] = Use("o")
        book["five"] = Record(list(zip("vwxyz", [A] * 5)))
        self.assertEqual(fewest_orders(book, "u")[0], PAPER[0])
        self.assertIs(shows_orders(book, "u", PAPER), True)
        for value in ANY + ["a", "o", "rows", "k", "z", "R"]:
            for call in (least_orders, fewest_orders, lambda book, name: shows_orders(book, name, PAPER)):
                self.assertEqual(raised_by(call, book, value), ("NotRecord", value))
        self.assertEqual(raised_by(shows_orders, book, "five", None), ("TooLarge", "fields", 4))

    def test_facts(self):
        book = library()
        book += at_most(size("b"), size("a"))
        book += at_most(size("b"), size("c"))
        self.assertEqual(fewest_orders(book, "r")[0], ((0, 1, 2),))
        self.assertEqual(fewest_orders(book, "r")[2], [])
        self.assertIs(shows_orders(book, "r", PAPER), False)
        book.facts = natural(book) + [less(number(1), size("b"))]
        self.assertEqual(len(fewest_orders(book, "r")[0]), 2)

    def test_any_things(self):
        for value in ANY + [PAPER]:
            self.assertIs(shows_orders(BOOK, "r", value), value == PAPER)
            for at in range(3):
                bent = PAPER[:at] + (value,) + PAPER[at + 1:]
                self.assertIs(shows_orders(BOOK, "r", bent), False)

    def test_orders_that_are_bent(self):
        orders, tree, machines = PAPER
        for other in [
            list(orders), (), orders[::-1], orders + orders, orders[:1], (list(orders[0]), orders[1]), ((False, True, 2), orders[1]),
            (orders[0], (0, 2)), (orders[0], (0, 2, 1, 3)), (orders[0], orders[0]), (orders[0], None), ((0, 1, 2), (2, 1, 0)),
            ((0, 1, 2), (0, 2, 1), (1, 0, 2)),
        ]:
            self.assertIs(shows_orders(BOOK, "r", (other, tree, machines)), False, other)
        other = ((1, 0, 2), (1, 2, 0))
        self.assertIs(shows_orders(BOOK, "r", (other, tree, machines)), True)

    def test_trees_that_are_bent(self):
        orders, tree, machines = PAPER
        for other in (LEAF, list(tree), tree[:5], tree + (LEAF,), ask(*tree[1:4], LEAF, LEAF), ("leave",)):
            self.assertIs(shows_orders(BOOK, "r", (orders, other, machines)), False)
        more = grafted(tree, ask("size a", "align c", 2000, LEAF, LEAF))
        self.assertIs(shows_orders(BOOK, "r", (orders, more, machines)), True)

    def test_machines_that_are_bent(self):
        orders, tree, machines = PAPER
        self.assertIs(shows_orders(BOOK, "r", (orders, tree, machines + machines[::-1])), True)
        wide = Machine([A, B, C], {"a": (1, 0), "b": (0, 0), "c": (0, 0)})
        for other in [
            tuple(machines), [], machines[:1], machines + [None], machines + [wide], machines + [Machine([A, B], {"a": (0, 0), "b": (0, 0)})],
            [machine(0, 1, 0), machine(1, 1, 1)], {0: machines[0]},
        ]:
            self.assertIs(shows_orders(BOOK, "r", (orders, tree, other)), False, other)
        three = [machine(1, 0, 0), machine(0, 1, 0), machine(0, 0, 1)]
        self.assertIs(shows_orders(BOOK, "r", (orders, tree, three)), True)

    def test_one_order_needs_no_machines(self):
        book = library(Record([("x", A), ("y", B)]))
        orders, tree, machines = fewest_orders(book, "r")
        self.assertEqual(machines, [])
        self.assertIs(shows_orders(book, "r", (((0, 1),), tree, [])), True)
        self.assertIs(shows_orders(book, "r", (((1, 0),), tree, [machine(2, 0, 1)])), True)
        self.assertIs(shows_orders(book, "r", (((0, 1), (1, 0)), tree, [machine(2, 0, 1)])), False)

    def test_orders_are_not_asked_to_be_the_least_ones(self):
        for other in itertools.combinations(itertools.permutations(range(3)), 2):
            covers = all(any(waste(here, ABC, order) == 0 for order in other) for here in map(lambda each: machine(*each), itertools.product(range(3), repeat=3)))
            self.assertIs(shows_orders(BOOK, "r", (other,) + PAPER[1:]), covers)

    def test_a_facts_machine_only(self):
        book = library()
        book += less(size("a"), size("c"))
        orders, tree, machines = fewest_orders(book, "r")
        self.assertTrue(all(holds(book, fact, each) for fact in book.facts for each in machines))
        self.assertIs(shows_orders(book, "r", (orders, tree, machines + [machine(1, 0, 0)])), False)

    def test_numbers_in_trees(self):
        for node in nodes_of(PAPER[1]):
            self.assertTrue(node == LEAF or -1999 <= node[3] <= 1999)


class Drawn(unittest.TestCase):
    """Against all orders on all near machines, laid out by hand."""

    def book(self, rng):
        kinds = KINDS[:rng.choice([1, 2, 2, 3])]
        book = Book(*kinds)
        parts = [drawn_part(rng, kinds, rng.choice([0, 0, 1])) for _ in range(rng.choice([1, 2, 3, 3, 4]))]
        if len(kinds) == 3:
            parts = rng.sample(kinds + [Byte(), Row(rng.choice(kinds), 2)], rng.choice([3, 4, 4]))
        book["r"] = Record(list(zip("wxyz", parts)))
        told = [same(size(kind.name), kind.times * align(kind.name)) for kind in kinds]
        if len(kinds) == 3 or rng.random() < 0.5:
            book.facts = told
        if rng.random() < 0.4 and len(kinds) < 3:
            book.facts = book.facts + (at_most(size("r"), rng.randint(2, 6) * size(kinds[0].name)),)
        return book

    def books(self, seed, many):
        rng = random.Random(seed)
        while many:
            try:
                yield self.book(rng)
                many -= 1
            except Barred:
                continue

    def machines(self, book, most):
        if len(book.kinds) < 3:
            found = machines_up_to(book.kinds, most)
        else:
            # Each size is its alignment here.
            rows = itertools.product(range(most + 1), repeat=3)
            found = [Machine(book.kinds, {kind.name: (n, n) for kind, n in zip(book.kinds, row)}) for row in rows]
        return [here for here in found if all(holds(book, fact, here) for fact in book.facts)]

    def least(self, here, record):
        return [order for order in itertools.permutations(range(len(record))) if waste(here, record, order) == 0]

    def test_least_orders(self):
        for book in self.books(321, 40):
            found = least_orders(book, "r")
            for zone, orders in found:
                self.assertTrue(zone)
                self.assertIs(type(orders), tuple)
            for here in self.machines(book, 4):
                rows = [orders for zone, orders in found if here in zone]
                self.assertEqual([list(orders) for orders in rows], [self.least(here, book["r"])])
            self.assertTrue(all(not one & other for (one, _), (other, _) in itertools.combinations(found, 2)))

    def test_fewest_orders(self):
        lengths = []
        for book in self.books(322, 40):
            record = book["r"]
            orders, tree, machines = fewest_orders(book, "r")
            self.assertIs(shows_orders(book, "r", (orders, tree, machines)), True)
            self.assertTrue(is_tree(book, tree) and all(node == LEAF or abs(node[3]) <= 1999 for node in nodes_of(tree)))
            sets = [self.least(here, record) for here in self.machines(book, 5) + machines]
            for length in range(1, len(orders) + 1):
                fits = [
                    chosen for chosen in itertools.combinations(itertools.permutations(range(len(record))), length)
                    if all(any(order in chosen for order in each) for each in sets)
                ]
                if fits:
                    break
            self.assertEqual((length, fits[0]), (len(orders), orders))
            lengths.append(length)
            for here in self.machines(book, 2)[:20]:
                self.assertTrue(leaf_of(book, tree, here))
        self.assertGreater(lengths.count(2), 2)


if __name__ == "__main__":
    unittest.main()
