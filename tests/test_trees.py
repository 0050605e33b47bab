"""Point 27: trees, their leaves and what can be made of them."""

import itertools
import random
import unittest

from anypads.machines import Machine
from anypads.parts import Kind
from anypads.trees import LEAF, ask, called, depth_of, grafted, leaf_of, leaves, size_of
from anypads.zones import Zone
from tests.books import Shelf
from tests.values import ANY, GREAT, is_text_of, is_whole, raised_by, same

SHORT, INT = Kind("short"), Kind("int", 2)
BOOK = Shelf([SHORT, INT], {})
FREE = Zone(SHORT, INT)
TREE = ask("size short", "size int", 0, LEAF, LEAF)
LOST = ask("size x", "align y", 1, LEAF, LEAF)


def machine(*numbers):
    return Machine([SHORT, INT], {"short": numbers[:2], "int": numbers[2:]})


def drawn_tree(rng, depth):
    if depth == 0 or rng.random() < 0.2:
        return LEAF
    i, j = rng.sample(FREE.order, 2)
    return ask(i, j, rng.randint(-2, 2), drawn_tree(rng, depth - 1), drawn_tree(rng, depth - 1))


class Made(unittest.TestCase):
    def test_tuples(self):
        self.assertEqual(LEAF, ("leaf",))
        self.assertEqual(TREE, ("ask", "size short", "size int", 0, ("leaf",), ("leaf",)))
        self.assertEqual(ask(i="byte", j="align q", c=-5, yes=TREE, no=LEAF), ("ask", "byte", "align q", -5, TREE, LEAF))

    def test_any_values(self):
        for value in ANY + ["size", "align byte", "int", "size  int"]:
            fine = is_text_of(value, ["byte", "size any"])
            self.assertEqual(raised_by(ask, value, "align p", 0, LEAF, LEAF), None if fine else ("NoScale", value))
            self.assertEqual(raised_by(ask, "align p", value, 0, LEAF, LEAF), None if fine else ("NoScale", value))
            expected = None if is_whole(value, -2000, 2000) else ("BadBound", value)
            self.assertTrue(same(raised_by(ask, "byte", "size p", value, LEAF, LEAF), expected))

    def test_numbers(self):
        for c in (-2000, 2000, 0):
            self.assertEqual(ask("byte", "size p", c, LEAF, LEAF)[3], c)
        for c in (-2001, 2001, GREAT, True):
            self.assertTrue(same(raised_by(ask, "byte", "size p", c, LEAF, LEAF), ("BadBound", c)))

    def test_the_order_of_errors(self):
        self.assertEqual(raised_by(ask, "x", "y", None, LEAF, LEAF), ("NoScale", "x"))
        self.assertEqual(raised_by(ask, "byte", "y", None, LEAF, LEAF), ("NoScale", "y"))
        self.assertEqual(raised_by(ask, "size p", "size p", None, LEAF, LEAF), ("NoScale", "size p"))
        self.assertEqual(raised_by(ask, "x", "x", None, LEAF, LEAF), ("NoScale", "x"))
        self.assertEqual(raised_by(ask, "byte", "byte", 0, LEAF, LEAF), ("NoScale", "byte"))


class Leaves(unittest.TestCase):
    def test_by_hand(self):
        self.assertEqual(list(leaves(BOOK, LEAF)), [FREE])
        self.assertEqual(list(leaves(BOOK, TREE)), list(FREE.sides("size short", "size int", 0)))
        inside, outside = FREE.sides("size short", "size int", 0)
        tree = ask("size short", "size int", 0, ask("byte", "align int", -2, LEAF, LEAF), LEAF)
        self.assertEqual(list(leaves(BOOK, tree)), [inside.within("byte", "align int", -2), inside.within("align int", "byte", 1), outside])
        self.assertEqual(list(leaves(book=BOOK, tree=tree)), list(leaves(BOOK, tree)))

    def test_leaves_without_a_machine(self):
        self.assertEqual(len(list(leaves(BOOK, grafted(TREE, TREE)))), 2)
        self.assertEqual(list(leaves(BOOK, ask("align int", "size int", 0, LEAF, LEAF))), [FREE])
        self.assertEqual(list(leaves(BOOK, ask("align int", "size int", 0, LEAF, TREE))), [FREE])
        self.assertEqual(list(leaves(BOOK, ask("byte", "size int", 0, LEAF, LEAF))), [FREE])

    def test_numbers_at_the_end(self):
        told = list(leaves(BOOK, ask("size int", "byte", 2000, LEAF, LEAF)))
        self.assertEqual(told[1].least()["size int"], 2001)
        self.assertEqual(told, list(FREE.sides("size int", "byte", 2000)))
        self.assertTrue(leaf_of(BOOK, ask("byte", "size int", -2000, LEAF, LEAF), machine(0, 0, 1000, 0)).within("size int", "byte", 1999))

    def test_leaf_of(self):
        self.assertEqual(leaf_of(BOOK, LEAF, machine(0, 0, 0, 0)), FREE)
        inside, outside = FREE.sides("size short", "size int", 0)
        self.assertEqual(leaf_of(BOOK, TREE, machine(1, 0, 1, 0)), inside)
        self.assertEqual(leaf_of(BOOK, TREE, machine(2, 0, 1, 0)), outside)
        self.assertEqual(leaf_of(book=BOOK, tree=TREE, machine=machine(2, 0, 1, 0)), outside)

    def test_drawn(self):
        rng = random.Random(51)
        machines = [machine(*a, *b) for a, b in itertools.product([(0, 0), (1, 0), (1, 1), (2, 1), (4, 0), (4, 4)], repeat=2)]
        for _ in range(150):
            tree = drawn_tree(rng, 4)
            zones = list(leaves(BOOK, tree))
            self.assertTrue(all(zones))
            for one, other in itertools.combinations(zones, 2):
                self.assertFalse(one & other)
            for each in machines:
                self.assertEqual([zone for zone in zones if each in zone], [leaf_of(BOOK, tree, each)])

    def test_scales_of_other_books(self):
        for tree, scale in [
            (LOST, "size x"), (ask("byte", "align y", 0, LOST, LEAF), "align y"), (ask("byte", "size int", 0, TREE, LOST), "size x"),
            (ask("byte", "size int", 0, ask("size z", "byte", 0, LEAF, LEAF), LOST), "size z"),
            (ask("byte", "size int", 0, ask("byte", "size int", 0, LEAF, ask("size q", "byte", 0, LEAF, LEAF)), LOST), "size q"),
            # No machine goes there.
            (ask("byte", "size int", 0, TREE, ask("byte", "size long", 0, LEAF, LEAF)), "size long"),
        ]:
            self.assertEqual(raised_by(lambda: next(leaves(BOOK, tree))), ("NoScale", scale))
            self.assertEqual(raised_by(leaf_of, BOOK, tree, machine(0, 0, 0, 0)), ("NoScale", scale))
            self.assertEqual(raised_by(leaf_of, BOOK, tree, Machine([SHORT], {"short": (0, 0)})), ("NoScale", scale))

    def test_other_machines(self):
        for other in (
            Machine([SHORT], {"short": (0, 0)}), Machine([INT, SHORT], {"short": (0, 0), "int": (0, 0)}),
            Machine([SHORT, Kind("int")], {"short": (0, 0), "int": (0, 0)}),
        ):
            for tree in (LEAF, TREE):
                self.assertEqual(raised_by(leaf_of, BOOK, tree, other), ("NoMachine", None))


class Reckoned(unittest.TestCase):
    def test_sizes_and_depths(self):
        side = ask("byte", "size int", 0, TREE, LEAF)
        for tree, size, depth in [
            (LEAF, 0, 0), (TREE, 1, 1), (grafted(TREE, TREE), 3, 2), (side, 2, 2), (grafted(side, TREE), 5, 3),
            (ask("byte", "size int", 0, LEAF, side), 3, 3), (ask("byte", "size int", 0, TREE, side), 4, 3),
        ]:
            self.assertEqual([size_of(tree), depth_of(tree)], [size, depth])
        self.assertEqual([size_of(tree=TREE), depth_of(tree=TREE)], [1, 1])

    def test_grafted(self):
        other = ask("byte", "align x", 3, LEAF, LEAF)
        self.assertEqual(grafted(LEAF, other), other)
        self.assertEqual(grafted(other, LEAF), other)
        self.assertEqual(grafted(TREE, other), ask("size short", "size int", 0, other, other))
        tree = ask("byte", "size a", 1, TREE, LEAF)
        self.assertEqual(grafted(tree, other), ask("byte", "size a", 1, ask("size short", "size int", 0, other, other), other))
        self.assertEqual(grafted(tree=TREE, other=LEAF), TREE)

    def test_called(self):
        tree = ask("size short", "align int", 0, ask("byte", "size int", -2, LEAF, LEAF), ask("align long", "byte", 5, LEAF, LEAF))
        turned = ask("size int", "align short", 0, ask("byte", "size short", -2, LEAF, LEAF), ask("align long", "byte", 5, LEAF, LEAF))
        self.assertEqual(called(tree, {"short": "int", "int": "short"}), turned)
        self.assertEqual(called(turned, {"short": "int", "int": "short"}), tree)
        self.assertEqual(called(tree, {}), tree)
        self.assertEqual(called(tree, {"other": "more"}), tree)
        self.assertEqual(called(LEAF, {"short": "int"}), LEAF)
        self.assertEqual(called(names={"short": "s"}, tree=TREE), ask("size s", "size int", 0, LEAF, LEAF))

    def test_what_is_passed_stays_as_it_is(self):
        names = {"short": "s"}
        called(TREE, names)
        grafted(TREE, TREE)
        self.assertEqual([names, TREE], [{"short": "s"}, ("ask", "size short", "size int", 0, LEAF, LEAF)])

    def test_deep_trees(self):
        tree = LEAF
        for c in range(200):
            tree = ask("size short", "size int", c, LEAF, tree) if c & 1 else ask("size int", "size short", c - 200, tree, LEAF)
        self.assertEqual([size_of(tree), depth_of(tree)], [200, 200])
        twice = grafted(tree, tree)
        self.assertEqual([size_of(twice), depth_of(twice)], [200 + 201 * 200, 400])
        other = called(tree, {"short": "int", "int": "short"})
        self.assertEqual(called(other, {"short": "int", "int": "short"}), tree)
        zones = list(leaves(BOOK, tree))
        self.assertEqual(len([zone for zone in zones if machine(0, 0, 0, 0) in zone]), 1)
        self.assertIn(machine(0, 0, 0, 0), leaf_of(BOOK, tree, machine(0, 0, 0, 0)))
        self.assertEqual(depth_of(grafted(twice, TREE)), 401)


if __name__ == "__main__":
    unittest.main()
