"""Point 34: the fewest facts, and the first bars."""

import itertools
import random
import unittest

from anypads.books import Book
from anypads.claims import Claim, at_most, less, no, no_gap, no_tail, same, yes
from anypads.fewest import choices, fewest, fewest_barred, shows_barred, shows_fewest
from anypads.looker import shows_always, shows_nothing
from anypads.machines import Machine
from anypads.parts import Kind, Record
from anypads.terms import number, packed, place, size, align
from anypads.trees import LEAF
from anypads.verdicts import decide
from tests.drawn import KINDS, drawn_book, drawn_claim
from tests.values import ANY, raised_by

SHORT, INT = Kind("short"), Kind("int")
OFFERED = [at_most(size("short"), size("int")), less(size("short"), size("int")), less(size("int"), size("short"))]
CLAIM = same(place("p", "y"), place("q", "y"))


def library():
    book = Book(SHORT, INT)
    book.facts = [same(size(name), align(name)) for name in ("short", "int")]
    book["p"] = Record([("x", SHORT), ("y", INT)])
    book["q"] = Record([("x", SHORT), ("z", SHORT), ("y", INT)])
    return book


BOOK = library()
SOME = fewest(BOOK, CLAIM, OFFERED)
NONE = fewest(BOOK, CLAIM, OFFERED[::2])
BARS = fewest_barred(BOOK, OFFERED)
FREE = fewest_barred(BOOK, OFFERED[:2])


def machine(*powers):
    return Machine([SHORT, INT], {name: (power, power) for name, power in zip(("short", "int"), powers)})


class Choices(unittest.TestCase):
    def test_all(self):
        self.assertEqual(list(choices(0)), [()])
        self.assertEqual(list(choices(3)), [(), (0,), (1,), (2,), (0, 1), (0, 2), (1, 2), (0, 1, 2)])
        for many in range(9):
            found = list(choices(many=many))
            expected = [choice for length in range(many + 1) for choice in itertools.combinations(range(many), length)]
            self.assertEqual(found, expected)
            self.assertTrue(all(type(choice) is tuple for choice in found))
        self.assertEqual(len(list(choices(8))), 256)


class Fewest(unittest.TestCase):
    def test_the_document(self):
        self.assertEqual([SOME[0], SOME[1], [(row[0], str(row[1])) for row in SOME[4]]], [
            "some", (1,), [((), "short 0 0, int 0 0"), ((0,), "short 0 0, int 0 0")],
        ])
        self.assertEqual(fewest(BOOK, CLAIM, OFFERED[:1])[0], "none")
        self.assertEqual(BARS[1], (0, 2))

    def test_what_is_told(self):
        word, choice, least, tree, reasons = SOME
        self.assertEqual((str(least), len(SOME)), ("short 0 0, int 1 1", 5))
        self.assertTrue(shows_always(BOOK, CLAIM, tree, [OFFERED[1]]))
        self.assertEqual([row[2] for row in reasons], [None, None])
        word, reasons = NONE
        self.assertEqual([row[0] for row in reasons], [(), (0,), (1,), (0, 1)])
        self.assertEqual([str(row[1]) for row in reasons[:2]], ["short 0 0, int 0 0"] * 2)
        self.assertEqual([str(row[1]) for row in reasons[2:]], ["short 1 1, int 0 0", "None"])
        self.assertTrue(shows_nothing(BOOK, reasons[3][2], [OFFERED[0], OFFERED[2]]))
        self.assertEqual([row[2] for row in reasons[:3]], [None] * 3)

    def test_no_choice_is_needed(self):
        for offered in ([], OFFERED, (no(),)):
            found = fewest(BOOK, yes(), offered)
            self.assertEqual((found[:2], str(found[2]), found[4]), (("some", ()), "short 0 0, int 0 0", ()))
            self.assertTrue(shows_fewest(BOOK, yes(), offered, found))
        self.assertEqual(fewest(BOOK, no(), [])[1][0][:1], ((),))

    def test_bars_do_not_count(self):
        found = fewest(BOOK, CLAIM, [no(), no(), OFFERED[1]])
        self.assertEqual(found[1], (2,))
        self.assertEqual([row[1] is None for row in found[4]], [False, True, True])
        self.assertTrue(shows_fewest(BOOK, CLAIM, [no(), no(), OFFERED[1]], found))
        self.assertEqual(fewest(BOOK, CLAIM, [no()])[0], "none")

    def test_the_same_claim_twice(self):
        offered = [OFFERED[0], OFFERED[1], OFFERED[1]]
        self.assertEqual(fewest(BOOK, CLAIM, offered)[1], (1,))
        self.assertTrue(shows_fewest(BOOK, CLAIM, offered, fewest(BOOK, CLAIM, offered)))

    def test_two_are_needed(self):
        offered = [at_most(size("short"), number(2)), at_most(number(2), size("short")), yes(), same(size("int"), number(4))]
        found = fewest(book=BOOK, claim=same(place("q", "y"), number(4)) & less(size("short"), size("int")), offered=offered)
        self.assertEqual(found[1], (0, 3))
        found = fewest(BOOK, same(size("short"), number(2)), offered)
        self.assertEqual((found[1], len(found[4])), ((0, 1), 5))

    def test_eight(self):
        offered = [at_most(size("short"), number(2 ** at)) for at in range(8)][::-1]
        found = fewest(BOOK, no(), offered)
        self.assertEqual((found[0], len(found[1])), ("none", 256))
        self.assertTrue(shows_fewest(BOOK, no(), offered, found))
        self.assertEqual(fewest(BOOK, at_most(size("short"), number(5)), offered)[1], (5,))
        self.assertEqual(str(fewest_barred(BOOK, offered)[1]), "short 0 0, int 0 0")


class Barred(unittest.TestCase):
    def test_what_is_told(self):
        word, choice, tree, machines = BARS
        self.assertEqual((word, choice), ("some", (0, 2)))
        self.assertTrue(shows_nothing(BOOK, tree, [OFFERED[0], OFFERED[2]]))
        self.assertIs(type(machines), tuple)
        self.assertEqual([str(each) for each in machines], [
            "short 0 0, int 0 0", "short 0 0, int 0 0", "short 0 0, int 1 1", "short 1 1, int 0 0", "short 0 0, int 1 1",
        ])
        self.assertEqual((FREE[0], str(FREE[1]), len(FREE)), ("none", "short 0 0, int 1 1", 2))
        self.assertEqual(fewest_barred(book=BOOK, offered=[]), ("none", machine(0, 0)))
        self.assertEqual(fewest_barred(BOOK, [yes(), no()])[1], (1,))

    def test_facts_count(self):
        book = library()
        book += less(size("int"), size("short"))
        self.assertEqual(fewest_barred(book, OFFERED)[1], (0,))
        self.assertIs(shows_barred(book, OFFERED, fewest_barred(book, OFFERED)), True)
        self.assertIs(shows_barred(BOOK, OFFERED, fewest_barred(book, OFFERED)), False)


class Errors(unittest.TestCase):
    def calls(self, claim, offered):
        return [lambda: fewest(BOOK, claim, offered), lambda: shows_fewest(BOOK, claim, offered, None)]

    def bars(self, offered):
        return [lambda: fewest_barred(BOOK, offered), lambda: shows_barred(BOOK, offered, None)]

    def test_any_claims(self):
        for value in ANY:
            if not isinstance(value, Claim):
                for call in self.calls(value, None) + self.calls(value, [None]) + self.calls(value, [no_tail("z")]):
                    self.assertEqual(raised_by(call), ("NoClaim", 0))
                for call in self.calls(yes(), [yes(), value, None]) + self.bars((yes(), value)):
                    self.assertEqual(raised_by(call), ("NoOffer", 1))

    def test_any_offers(self):
        for value in ANY:
            expected = ("NoOffer", 0) if isinstance(value, (list, tuple)) else ("NoOffer", None)
            if value not in ([], ()):
                for call in self.calls(yes(), value) + self.bars(value):
                    self.assertEqual(raised_by(call), expected)
        for value in ([yes()] * 9, (yes(),) * 9, [None] * 9):
            for call in self.calls(no_tail("z"), value) + self.bars(value):
                self.assertEqual(raised_by(call), ("NoOffer", None))
        for call in self.calls(yes(), [None] * 8) + self.bars([None] * 8):
            self.assertEqual(raised_by(call), ("NoOffer", 0))

    def test_the_errors_of_names(self):
        great = 64 * (64 * (64 * number(4)))
        for claim, offered, expected in [
            (no_tail("z"), [None], ("NoOffer", 0)), (no_tail("z"), [no_tail("int")], ("NoName", "z")), (yes(), [no_tail("int"), no_tail("z")], ("NotRecord", "int")),
            (no_gap("p", "w"), [no_tail("z")], ("NoPath", "w", 0)), (yes(), [same(great, packed("int"))], ("NotRecord", "int")),
            (less(great, number(1)), [no_tail("z")], ("TooLarge", "units", 1000000)),
        ]:
            for call in self.calls(claim, offered) + (self.bars(offered) if claim == yes() else []):
                self.assertEqual(raised_by(call), expected)


class Shown(unittest.TestCase):
    def fewest(self, thing, offered=OFFERED):
        return shows_fewest(BOOK, CLAIM, offered, thing)

    def test_any_values(self):
        for value in ANY:
            self.assertIs(self.fewest(value), False)
            self.assertIs(shows_barred(BOOK, OFFERED, value), False)
            for at in range(5):
                if SOME[at] != value:
                    self.assertIs(self.fewest(SOME[:at] + (value,) + SOME[at + 1:]), at == 3 and value == LEAF and False)
            for at in range(4):
                self.assertIs(shows_barred(BOOK, OFFERED, BARS[:at] + (value,) + BARS[at + 1:]), False)
            for at in range(2):
                self.assertIs(self.fewest(NONE[:at] + (value,) + NONE[at + 1:], OFFERED[::2]), False)
                self.assertIs(shows_barred(BOOK, OFFERED[:2], FREE[:at] + (value,) + FREE[at + 1:]), False)
            for at in range(3):
                row = NONE[1][3][:at] + (value,) + NONE[1][3][at + 1:]
                self.assertIs(self.fewest(("none", NONE[1][:3] + (row,)), OFFERED[::2]), at == 1 and value is None)

    def test_what_is_told_is_taken(self):
        self.assertIs(self.fewest(SOME), True)
        self.assertIs(self.fewest(NONE, OFFERED[::2]), True)
        self.assertIs(self.fewest(NONE), False)
        self.assertIs(self.fewest(SOME, OFFERED[:2]), True)
        self.assertIs(self.fewest(SOME, OFFERED[::2]), False)
        self.assertIs(shows_barred(BOOK, OFFERED, BARS), True)
        self.assertIs(shows_barred(BOOK, OFFERED[:2], FREE), True)
        self.assertIs(shows_barred(BOOK, OFFERED[:2], BARS), False)
        self.assertIs(shows_fewest(book=BOOK, claim=CLAIM, offered=OFFERED, thing=SOME), True)
        self.assertIs(shows_barred(book=BOOK, offered=OFFERED, thing=BARS), True)

    def test_bent(self):
        word, choice, least, tree, reasons = SOME
        one, other = reasons
        for thing in [
            list(SOME), SOME[:4], SOME + (None,), ("none",) + SOME[1:], (word, [1], least, tree, reasons), (word, (True,), least, tree, reasons),
            (word, (0,), least, tree, reasons[:1]), (word, (3,), least, tree, reasons), (word, (1, 0), least, tree, reasons), (word, (), least, tree, ()),
            (word, choice, machine(0, 0), tree, reasons), (word, choice, Machine([INT, SHORT], {"short": (0, 0), "int": (1, 1)}), tree, reasons),
            (word, choice, Machine([SHORT, INT], {"short": (0, 0), "int": (1, 0)}), tree, reasons), (word, choice, None, tree, reasons),
            (word, choice, least, LEAF, reasons), (word, choice, least, tree, list(reasons)), (word, choice, least, tree, reasons[::-1]),
            (word, choice, least, tree, reasons[:1]), (word, choice, least, tree, reasons + reasons[:1]), (word, choice, least, tree, (list(one), other)),
            (word, choice, least, tree, (one, ((False,),) + other[1:])), (word, choice, least, tree, (one, ([0],) + other[1:])),
            (word, choice, least, tree, (one, ((0,), machine(0, 1), None))), (word, choice, least, tree, (one, ((0,), other[1], LEAF))),
            (word, choice, least, tree, (one, ((0,), None, tree))), (word, choice, least, tree, (((), None, None), other)),
        ]:
            self.assertIs(self.fewest(thing), False, thing)

    def test_trees_that_are_alike(self):
        """One tree may stand in many reasons; one that only equals it, with True for 1, is none."""
        offered = [no(), less(size("int"), align("int")), yes()]
        tree, bent = [("ask", "size int", "byte", c, LEAF, LEAF) for c in (1, True)]
        self.assertEqual(tree, bent)
        machines = {(): machine(0, 0), (2,): machine(1, 0)}
        rows = [(choice, machines.get(choice), None if choice in machines else tree) for choice in choices(3)]
        self.assertIs(shows_fewest(BOOK, no(), offered, ("none", tuple(rows))), True)
        for at, (choice, _, told) in enumerate(rows):
            if told is not None:
                for other in (bent, ("ask", "size int", "byte", 1, LEAF), None):
                    changed = rows[:at] + [(choice, None, other)] + rows[at + 1:]
                    self.assertIs(shows_fewest(BOOK, no(), offered, ("none", tuple(changed))), False)

    def test_machines_need_not_be_least_and_trees_may_be_any(self):
        word, choice, least, tree, reasons = SOME
        great = ("ask", "size int", "byte", 3, tree, tree)
        other = ((0,), machine(0, 0), None)
        self.assertIs(self.fewest((word, choice, machine(2, 5), great, (((), machine(3, 3), None), other))), True)
        self.assertIs(self.fewest((word, choice, machine(2, 2), great, reasons)), False)
        word, choice, tree, machines = BARS
        more = tuple(machine(at + 1, at + 5) for at in range(3)) + (machine(7, 2), machine(1, 9))
        self.assertIs(shows_barred(BOOK, OFFERED, (word, choice, tree, more)), True)
        self.assertIs(shows_barred(BOOK, OFFERED, (word, choice, tree, more[:3] + (machine(2, 2),) + more[4:])), False)
        self.assertIs(shows_barred(BOOK, OFFERED, (word, choice, tree, machines[:4])), False)
        self.assertIs(shows_barred(BOOK, OFFERED, (word, choice, tree, list(machines))), False)
        self.assertIs(shows_barred(BOOK, OFFERED, (word, (0, 1), tree, machines[:4])), False)
        self.assertIs(shows_barred(BOOK, OFFERED[:2], ("none", machine(4, 6))), True)
        self.assertIs(shows_barred(BOOK, OFFERED[:2], ("none", machine(4, 4))), False)
        self.assertIs(shows_barred(BOOK, [], ("none", machine(4, 4))), True)


class Drawn(unittest.TestCase):
    """Against all choices, one by one."""

    def test_all_choices(self):
        rng = random.Random(34)
        words = []
        for _ in range(45):
            book = drawn_book(rng, KINDS[:rng.choice([1, 2, 2, 3])], 1, 1)
            claim = drawn_claim(rng, book, 1)
            offered = [drawn_claim(rng, book, 1) for _ in range(rng.randint(0, 4))] + rng.choice([[], [claim], [~claim], [claim, ~claim]])
            verdicts = [(choice, decide(book, claim, [offered[at] for at in choice])) for choice in choices(len(offered))]
            words.append(self.look_at_fewest(book, claim, offered, verdicts))
            words.append(self.look_at_bars(book, offered, verdicts))
        for word in set(words):
            self.assertGreater(words.count(word), 3)
        self.assertEqual(len(set(words)), 4)

    def look_at_fewest(self, book, claim, offered, verdicts):
        found = fewest(book, claim, offered)
        self.assertIs(shows_fewest(book, claim, offered, found), True)
        does = [at for at, (_, verdict) in enumerate(verdicts) if verdict.word == "always"]
        ahead = verdicts[:does[0]] if does else verdicts
        self.assertEqual([row[0] for row in found[-1]], [choice for choice, _ in ahead])
        for (choice, verdict), (_, least, tree) in zip(ahead, found[-1]):
            self.assertEqual((least, tree is None), (verdict.machine, verdict.word == "breaks"))
            if tree is not None:
                self.assertTrue(shows_nothing(book, tree, [offered[at] for at in choice]))
        if does:
            choice = verdicts[does[0]][0]
            given = [offered[at] for at in choice]
            self.assertEqual(found[:3], ("some", choice, decide(book, no(), given).machine))
            self.assertTrue(shows_always(book, claim, found[3], given))
        return "fewest", found[0]

    def look_at_bars(self, book, offered, verdicts):
        found = fewest_barred(book, offered)
        self.assertIs(shows_barred(book, offered, found), True)
        barred = [at for at, (_, verdict) in enumerate(verdicts) if verdict.word == "nothing"]
        ahead = verdicts[:barred[0]] if barred else verdicts
        least = tuple(decide(book, no(), [offered[at] for at in choice]).machine for choice, _ in ahead)
        if barred:
            self.assertEqual((found[1], found[3]), (verdicts[barred[0]][0], least))
        else:
            self.assertEqual(found, ("none", least[-1]))
        return "bars", found[0]


if __name__ == "__main__":
    unittest.main()
