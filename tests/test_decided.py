"""Points 27 to 31 by going through: drawn books, claims and given ones on all machines with small exponents."""

import random
import unittest

from anypads.claims import holds, less, no, told, yes
from anypads.errors import PadError, TooLarge
from anypads.looker import shows_always, shows_breaks, shows_least, shows_nothing
from anypads.regions import Span, implied, region, span, sure
from anypads.terms import number, value
from anypads.trees import leaf_of, leaves
from anypads.verdicts import decide, verdicts
from tests.drawn import KINDS, by_order, drawn_book, drawn_claim, drawn_term, machines_up_to

MOST = {1: 9, 2: 4, 3: 2}
MACHINES = {many: machines_up_to(KINDS[:many], most) for many, most in MOST.items()}


class Case:
    """A drawn book with a claim and given ones, and the machines on which they hold."""

    def __init__(self, seed):
        self.rng = random.Random(seed)
        many = self.rng.choice([1, 2, 2, 2, 3])
        self.most = MOST[many]
        self.machines = MACHINES[many]
        self.book = drawn_book(self.rng, KINDS[:many])
        self.claim = drawn_claim(self.rng, self.book)
        self.given = [drawn_claim(self.rng, self.book) for _ in range(self.rng.choice([0, 0, 1, 2]))]
        self.let = self.holding(self.machines, list(self.book.facts) + self.given)
        self.good = self.holding(self.let, [self.claim])

    def holding(self, machines, claims):
        return [machine for machine in machines if all(holds(self.book, claim, machine) for claim in claims)]


class Verdicts(unittest.TestCase):
    def test_against_all_small_machines(self):
        words = []
        for seed in range(130):
            case = Case(seed)
            verdict = decide(case.book, case.claim, case.given)
            words.append(verdict.word)
            self.look(case, verdict, f"{seed}: {case.claim}")
        for word in ("always", "breaks", "nothing"):
            self.assertGreater(words.count(word), 15)

    def look(self, case, verdict, message):
        told_of = (case.book, case.claim)
        broken = [machine for machine in case.let if machine not in case.good]
        if verdict.word == "breaks":
            self.assertTrue(shows_breaks(*told_of, verdict.machine, case.given), message)
            self.assertTrue(shows_least(*told_of, verdict.machine, verdict.tree, case.given), message)
            first = broken[0] if broken else verdict.machine
            self.assertEqual(verdict.machine, first, message)
            self.assertTrue(broken or max(by_order(first)[1]) > case.most, message)
        else:
            self.assertEqual(broken, [], message)
            self.assertIsNone(verdict.machine)
        self.assertIs(shows_always(*told_of, verdict.tree, case.given), verdict.word != "breaks", message)
        self.assertIs(shows_nothing(case.book, verdict.tree, case.given), verdict.word == "nothing", message)
        if verdict.word == "nothing":
            self.assertEqual(case.let, [], message)

    def test_trees_decide(self):
        for seed in range(200, 260):
            case = Case(seed)
            tree = decide(case.book, case.claim, case.given).tree
            facts = list(case.book.facts) + case.given
            for zone in leaves(case.book, tree):
                truths = [told(case.book, fact, zone) for fact in facts]
                self.assertTrue(False in truths or None not in truths + [told(case.book, case.claim, zone)], str(zone))
            for machine in case.machines[:40]:
                zone = leaf_of(case.book, tree, machine)
                self.assertIn(told(case.book, case.claim, zone), (None, holds(case.book, case.claim, machine)))

    def test_many_claims_at_once(self):
        for seed in range(300, 340):
            case = Case(seed)
            claims = [case.claim, ~case.claim, yes(), no()]
            found = list(verdicts(case.book, claims, case.given))
            self.assertEqual(found, [decide(case.book, claim, case.given) for claim in claims])
            self.assertEqual([verdict.tree for verdict in found], [decide(case.book, claim, case.given).tree for claim in claims])


class Regions(unittest.TestCase):
    def test_against_all_small_machines(self):
        empty = 0
        for seed in range(400, 470):
            case = Case(seed)
            found = region(case.book, case.claim, case.given)
            empty += not found
            self.assertEqual([machine for machine in case.machines if machine in found], case.good)
            self.assertEqual(list(found.ascending(case.most)), case.good)
            zones = found.zones()
            for machine in case.machines[::3]:
                self.assertEqual(sum(machine in zone for zone in zones), machine in case.good)
            if case.good:
                self.assertEqual(found.least(), case.good[0])
            self.look_at_ends(found, case)
        self.assertGreater(empty, 8)

    def look_at_ends(self, found, case):
        greatest = [zone.greatest() for zone in found.zones()]
        endless = tuple(scale for scale in found.scales if any(each[scale] is None for each in greatest))
        self.assertEqual(found.endless, endless)
        for zone in found.zones():
            self.assertTrue(zone)
            self.assertTrue(all(-2000 <= c <= 2000 for _, _, c in zone.bounds()))
        if not endless and all(max(each.values()) <= case.most for each in greatest):
            self.assertEqual(found.count(), len(case.good))
        elif not endless:
            try:
                self.assertGreater(found.count(), len(case.good))
            except TooLarge:
                self.assertGreater(len(list(found.ascending(1000))), 1000)

    def test_sets(self):
        for seed in range(520, 560):
            case = Case(seed)
            other_claim = drawn_claim(case.rng, case.book)
            one, other = region(case.book, case.claim, case.given), region(case.book, other_claim)
            others = case.holding(case.machines, list(case.book.facts) + [other_claim])
            for found, expected in [
                (one & other, [machine for machine in case.good if machine in others]),
                (one | other, [machine for machine in case.machines if machine in case.good or machine in others]),
                (one - other, [machine for machine in case.good if machine not in others]),
            ]:
                self.assertEqual(list(found.ascending(case.most)), expected)
                for machine in expected:
                    self.assertEqual(sum(machine in zone for zone in found.zones()), 1)
            self.look_at_order(one, other)
            self.assertEqual(one & other, region(case.book, case.claim & other_claim, case.given))
            self.assertEqual(region(case.book, case.claim | other_claim), region(case.book, case.claim) | other)
            self.assertEqual(one - other, region(case.book, case.claim & ~other_claim, case.given))

    def look_at_order(self, one, other):
        self.assertTrue(one & other <= one and one - other <= one and one <= one | other)
        self.assertTrue((one - other) | (one & other) == one)
        self.assertFalse((one - other) & other)
        self.assertIs(one <= other, not one - other)
        self.assertIs(one == other, not one - other and not other - one)


class Spans(unittest.TestCase):
    def test_against_all_small_machines(self):
        endless = 0
        for seed in range(600, 690):
            case = Case(seed)
            machines = case.holding(case.machines, case.book.facts)
            term = drawn_term(case.rng, case.book)
            found = span(case.book, term)
            endless += found.high is None
            self.assertIs(type(found), Span)
            values = [value(case.book, term, machine) for machine in machines]
            self.assertTrue(all(each in found for each in values))
            self.look_at(case, term, found.low, found.low_machine, machines, min(values, default=None))
            if found.high is None:
                self.assertIsNone(found.high_machine)
                self.rises_without_end(case, term)
            else:
                self.look_at(case, term, found.high, found.high_machine, machines, max(values, default=None))
            self.assertEqual(sure(case.book, term), found.low if found.low == found.high else None)
        self.assertGreater(endless, 30)
        self.assertLess(endless, 80)

    def look_at(self, case, term, end, machine, machines, best):
        self.assertTrue(all(holds(case.book, fact, machine) for fact in case.book.facts))
        self.assertEqual(value(case.book, term, machine), end)
        if max(by_order(machine)[1]) <= case.most:
            self.assertEqual(end, best)
            self.assertEqual(machine, [each for each in machines if value(case.book, term, each) == end][0])

    def rises_without_end(self, case, term):
        """On some machine of the facts the value is greater than any that is told."""
        for many in (number(1000), 10 * (40 * number(1000))):
            beyond = region(case.book, less(many, term))
            self.assertTrue(beyond)
            self.assertGreater(value(case.book, term, beyond.least()), value(case.book, many, beyond.least()))

    def test_implied(self):
        for seed in range(720, 760):
            case = Case(seed)
            machines = case.holding(case.machines, case.book.facts)
            names = ("byte",) + machines[0].scales if machines else ("byte",)
            for i in names:
                for j in names:
                    least, greatest = implied(case.book, i, j)
                    found = [machine[i] - machine[j] for machine in machines]
                    if found:
                        self.assertTrue((least is None or least <= min(found)) and (greatest is None or max(found) <= greatest))
                    zones = region(case.book, yes()).zones()
                    highs = [zone[i, j] for zone in zones]
                    self.assertEqual(greatest, None if None in highs else max(highs))
                    lows = [zone[j, i] for zone in zones]
                    self.assertEqual(least, None if None in lows else -max(lows))

    def test_errors_come_from_nowhere(self):
        """None of what was drawn above is refused, but for books in which nothing is left."""
        for seed in range(800, 830):
            case = Case(seed)
            try:
                span(case.book, drawn_term(case.rng, case.book))
            except PadError as error:
                self.fail(repr(error))


if __name__ == "__main__":
    unittest.main()
