"""Point 25: what claims are told in a zone, by hand and against machines."""

import random
import unittest

from anypads.claims import at_most, holds, least_order, less, no, no_gap, no_tail, plain, reach, same, stands_in, told, yes
from anypads.parts import Byte, Kind, Overlay, Record, Row, Use
from anypads.terms import align, end, number, packed, place, size
from anypads.zones import Zone
from tests.books import Shelf
from tests.drawn import drawn_part, drawn_zone, every_path, exact_zone, machines_in

I, D = Kind("i"), Kind("d")
FREE = Zone(I, D)
# All that stands ahead of a d is below its alignment.
BELOW = FREE.within("size i", "align d", -1)
# A d is one byte, or an i is one.
D_ONE = FREE.within("size d", "byte", 0)
I_ONE = FREE.within("size i", "byte", 0)
BOOK = Shelf([I, D], {
    "p": Record([("x", I), ("y", D)]),
    "q": Record([("x", I), ("z", I), ("y", D)]),
    "r": Record([("x", Byte()), ("y", I)]),
    "s": Record([("y", I), ("x", Byte())]),
    "view": Overlay([("a", Use("p")), ("b", Byte())]),
})


class ByHand(unittest.TestCase):
    def look(self, claim, zone, expected):
        self.assertIs(told(BOOK, claim, zone), expected, f"{claim} in {zone}")
        self.assertIs(told(BOOK, ~claim, zone), None if expected is None else not expected)
        self.assertIs(told(BOOK, plain(BOOK, claim), zone), expected)

    def test_comparisons(self):
        for claim, zone, expected in [
            (at_most(size("i"), size("d")), FREE, None), (at_most(size("i"), size("d")), BELOW, True), (at_most(size("d"), size("i")), BELOW, False),
            (less(size("i"), size("d")), BELOW, True), (less(size("d"), size("i")), BELOW, False), (less(size("i"), size("d")), FREE, None),
            (at_most(align("i"), size("i")), FREE, True), (less(align("i"), size("i")), FREE, None), (less(size("i"), align("i")), FREE, False),
            (same(size("i"), size("i")), FREE, True), (same(size("i"), number(1)), I_ONE, True), (same(size("i"), number(2)), I_ONE, False),
            (same(size("i"), number(1)), FREE, None), (same(size("d"), size("i")), BELOW, False), (less(number(0), size("i")), FREE, True),
            (at_most(number(1), size("i")), FREE, True), (less(number(1), size("i")), FREE, None), (same(number(0), size("i")), FREE, False),
        ]:
            self.look(claim, zone, expected)
        self.assertIs(told(book=BOOK, claim=yes(), zone=FREE), True)

    def test_terms_that_are_not_settled(self):
        self.look(same(place("p", "y"), place("p", "y")), FREE, None)
        self.look(at_most(number(0), size("p")), FREE, None)
        self.look(less(size("p"), number(0)), FREE, None)

    def test_set_claims(self):
        for zone in (FREE, BELOW):
            self.look(yes(), zone, True)
            self.look(no(), zone, False)

    def test_no_gap(self):
        self.look(no_gap("r", "y"), FREE, None)
        self.look(no_gap("r", "y"), FREE.within("align i", "byte", 0), True)
        self.look(no_gap("r", "y"), FREE.within("byte", "align i", -1), False)
        self.look(no_gap("p", "y"), BELOW, False)
        self.look(no_gap("p", "y"), D_ONE, True)
        for name, path in (("p", "x"), ("view", "a"), ("view", "a.x")):
            self.look(no_gap(name, path), FREE, True)

    def test_no_tail(self):
        self.look(no_tail("r"), FREE, True)
        self.look(no_tail("s"), FREE, None)
        self.look(no_tail("s"), FREE.within("byte", "align i", -1), False)
        self.look(no_tail("s"), I_ONE, True)
        self.look(no_tail("p"), FREE, None)

    def test_least_order(self):
        self.look(least_order("r"), FREE, True)
        self.look(least_order("p"), FREE, None)
        self.look(least_order("p"), BELOW, True)
        book = Shelf([I, D], {"t": Record([("a", Byte()), ("b", I), ("c", Byte())])})
        two = FREE.within("byte", "align i", -1)
        self.assertEqual([told(book, least_order("t"), zone) for zone in (FREE, two, I_ONE)], [None, False, True])

    def test_stands_in(self):
        self.look(stands_in("q", "p"), BELOW, True)
        self.look(stands_in("q", "p"), FREE, None)
        self.look(stands_in("q", "p"), D_ONE, False)
        self.look(stands_in("p", "q"), BELOW, False)
        self.look(stands_in("s", "r"), FREE, False)
        self.look(stands_in("p", "i"), FREE, True)

    def test_joined(self):
        true, false, open_ = yes(), no(), less(size("i"), size("d"))
        values = [(true, True), (false, False), (open_, None)]
        for one, first in values:
            self.look(~one, FREE, None if first is None else not first)
            for other, second in values:
                both = False if False in (first, second) else (None if None in (first, second) else True)
                some = True if True in (first, second) else (None if None in (first, second) else False)
                self.look(one & other, FREE, both)
                self.look(one | other, FREE, some)
        # No more than that is told: one side or the other holds, but neither is told.
        self.look(open_ | ~open_, FREE, None)
        self.look(open_ & ~open_, FREE, None)

    def test_the_document(self):
        one = same(place("p", "y"), place("q", "y"))
        claims = [one, at_most(place("p", "y"), size("i")), no_gap("p", "y"), stands_in("q", "p")]
        found = [[told(BOOK, claim, where) for claim in claims] for where in (BELOW, FREE)]
        self.assertEqual(found, [[True, False, False, True], [None, None, None, None]])


class Drawn(unittest.TestCase):
    def book(self, rng):
        kinds = [I, D]
        parts = {
            "p": Record([("w", drawn_part(rng, kinds, 2)), ("x", drawn_part(rng, kinds, 1)), ("y", drawn_part(rng, kinds, 0))]),
            "q": Record([("x", drawn_part(rng, kinds, 1)), ("w", drawn_part(rng, kinds, 0))]),
        }
        return Shelf(kinds, {**parts, "r": Record([("a", Use("p")), ("b", Row(Use("q"), 2))])})

    def claim(self, rng, book):
        def term():
            name = rng.choice(["p", "q", "r", "i", "d"])
            paths = list(every_path(book.resolved(name)))
            told_terms = [size(name), align(name), number(rng.randint(0, 20)), rng.randint(1, 4) * size(name)]
            if paths:
                told_terms += [place(name, rng.choice(paths)), end(name, rng.choice(paths)), packed(name)]
            return rng.choice(told_terms)

        def simple():
            name = rng.choice(["p", "q", "r"])
            path = rng.choice(list(every_path(book.resolved(name))))
            sorts = [no_gap(name, path), no_tail(name), least_order(name), stands_in(name, rng.choice(["p", "q", "i"]))]
            return rng.choice(sorts + [rng.choice([at_most, less, same])(term(), term()) for _ in range(5)])

        one, other = simple(), simple()
        return rng.choice([one, ~one, one & other, one | other, one & ~other])

    def test_what_is_told_holds_on_each_machine(self):
        rng = random.Random(41)
        answers = []
        for _ in range(120):
            book, zone = self.book(rng), drawn_zone(rng, [I, D], 2)
            for _ in range(3):
                claim = self.claim(rng, book)
                answer = told(book, claim, zone)
                answers.append(answer)
                self.assertIs(told(book, plain(book, claim), zone), answer)
                for machine in machines_in(zone, 2):
                    here = holds(book, claim, machine)
                    self.assertIs(here, holds(book, plain(book, claim), machine))
                    self.assertIn(answer, (None, here))
        for answer in (True, False, None):
            self.assertGreater(answers.count(answer), 30)

    def test_near_machines(self):
        """Point 26: with differences that are exact or at least the reach all is told."""
        rng = random.Random(42)
        for _ in range(150):
            book = self.book(rng)
            claim = self.claim(rng, book)
            zone = exact_zone(rng, [I, D], 12, reach(book, claim))
            self.assertIsNotNone(told(book, claim, zone), (str(claim), str(zone)))


if __name__ == "__main__":
    unittest.main()
