"""Whether a claim holds on all machines on which the facts of a book and given claims hold."""

from anypads.claims import Claim
from anypads.errors import NoClaim
from anypads.plans import plan_of
from anypads.splitting import Matter, let_leaves, split, tree_of
from anypads.zones import least_machine


class Verdict:
    """What was decided: the base of Always, Breaks and Nothing."""

    WORDS = ("always", "breaks", "nothing")

    def __init__(self, word, machine, tree):
        self.word = word
        self.machine = machine
        self.tree = tree

    def __bool__(self):
        return bool(self.word == "always")

    def __eq__(self, other):
        return isinstance(other, Verdict) and self.word == other.word and self.machine == other.machine

    def __repr__(self):
        if self.machine is None:
            return str(self.word)
        return f"{self.word} {self.machine}"


class Always(Verdict):
    """The claim holds on each machine that is let."""

    def __init__(self, tree):
        Verdict.__init__(self, "always", None, tree)


class Breaks(Verdict):
    """The claim does not hold on this machine, the least one of those that are let."""

    def __init__(self, machine, tree):
        Verdict.__init__(self, "breaks", machine, tree)


class Nothing(Verdict):
    """No machine is let."""

    def __init__(self, tree):
        Verdict.__init__(self, "nothing", None, tree)


def decide(book, claim, given=()):
    """The verdict on a claim, with given claims beside the facts."""
    return decided(tuple(book.kinds), asked_plan(book, [claim] + list(given)), 0, 1)


def verdicts(book, claims, given=()):
    """Yields the verdicts on claims, with given claims beside the facts of each."""
    kinds, many = tuple(book.kinds), len(claims)
    plan = asked_plan(book, list(claims) + list(given))
    for at in range(many):
        yield decided(kinds, plan, at, many)


def asked_plan(book, claims):
    """The plan of any values as claims, with the facts of the book behind them; raises what decide raises."""
    for at, claim in enumerate(claims):
        if not isinstance(claim, Claim):
            raise NoClaim(at)
    return plan_of(book, claims + list(book.facts))


def decided(kinds, plan, at, first):
    """The verdict on the claim at an index of a plan, with all claims from the first index on as musts."""
    matter = Matter(kinds, plan, list(range(first, len(plan.claims))), [at])
    nodes = split(matter)
    found = let_leaves(nodes)
    broken = [zone for zone, truths in found if not truths[0]]
    if not found:
        return Nothing(tree_of(nodes))
    return Breaks(least_machine(broken), tree_of(nodes)) if broken else Always(tree_of(nodes))
