"""Claims: comparisons of terms, four sorts that the book tells, and what and, or, not make of them."""

from anypads.errors import BadName, NoTerm
from anypads.layout import Layout
from anypads.plans import COMPARISONS, JOINS, holds_on, most_units, opened, plan_of, told_in
from anypads.terms import Term, need_machine, need_steps
from anypads.views import View
from anypads.words import is_name


class Claim:
    """A claim.

    `steps` tell it with each join behind what it joins: (word, term, term) for a comparison, ("yes",), ("no",),
    ("nogap", name, path), ("notail", name), ("leastorder", name), ("for", name, name), and ("not",), which takes the
    claim that has just ended, ("and",) and ("or",), which take the two that have just ended.
    """

    def __init__(self, steps):
        self.steps = steps

    def __and__(self, other):
        if not isinstance(other, Claim):
            return NotImplemented
        return Claim(self.steps + other.steps + (("and",),))

    def __or__(self, other):
        if not isinstance(other, Claim):
            return NotImplemented
        return Claim(self.steps + other.steps + (("or",),))

    def __invert__(self):
        return Claim(self.steps + (("not",),))

    def __eq__(self, other):
        return isinstance(other, Claim) and self.steps == other.steps

    def __str__(self):
        return str(text_of(self.steps))

    @staticmethod
    def is_claim(thing):
        """Whether anything is a claim."""
        return isinstance(thing, Claim)

    def named(self):
        """The ascending tuple of the names in it."""
        found = {name: True for step in self.steps for name in names_in(step)}
        return tuple(sorted([str(name) for name in found]))


def at_most(one, other):
    """The claim that the one term is at most the other one."""
    return comparison("<=", one, other)


def less(one, other):
    """The claim that the one term is less than the other one."""
    return comparison("<", one, other)


def same(one, other):
    """The claim that two terms are the same."""
    return comparison("=", one, other)


def yes():
    """The claim that holds always."""
    return Claim((("yes",),))


def no():
    """The claim that never holds."""
    return Claim((("no",),))


def no_gap(name, path):
    """The claim that nothing is left free ahead of a path."""
    need_steps(name, path)
    return Claim((("nogap", name, path),))


def no_tail(name):
    """The claim that nothing is left free behind the last field of a record."""
    need_name(name)
    return Claim((("notail", name),))


def least_order(name):
    """The claim that no order of a record's fields has a lesser size."""
    need_name(name)
    return Claim((("leastorder", name),))


def stands_in(one, other):
    """The claim that all paths of the other part are in the one, too, with equal parts at the same places."""
    need_name(one)
    need_name(other)
    return Claim((("for", one, other),))


def comparison(word, one, other):
    """The comparison of any values as terms."""
    for at, term in enumerate((one, other)):
        if not isinstance(term, Term):
            raise NoTerm(at)
    return Claim(((word, one, other),))


def need_name(name):
    """Raises BadName if any value is no name."""
    if not is_name(name):
        raise BadName(name)


def names_in(step):
    """The names in a step of a claim."""
    if step[0] in COMPARISONS:
        return step[1].named() + step[2].named()
    return step[1:2] if step[0] == "nogap" else step[1:]


def text_of(steps):
    """How a claim of these steps is written."""
    texts = []
    for step in steps:
        if step[0] in JOINS:
            right = texts.pop()
            left = texts.pop()
            texts.append(f"({left}) {step[0]} ({right})")
        elif step[0] == "not":
            inner = texts.pop()
            texts.append(f"not ({inner})")
        else:
            texts.append(step_text(step))
    return texts[0]


def step_text(step):
    """How a step that takes no other claims is written."""
    if step[0] in COMPARISONS:
        return f"{step[1]} {step[0]} {step[2]}"
    if step[0] == "for":
        return f"{step[1]} for {step[2]}"
    return " ".join(step)


def plain(book, claim):
    """The claim with comparisons in the place of what the book tells."""
    return Claim(tuple(opened(book, claim, {})))


def holds(book, claim, machine):
    """Whether a claim holds on a machine."""
    need_machine(book, machine)
    return holds_on(plan_of(book, [claim]), 0, Layout(machine))


def told(book, claim, zone):
    """Whether a claim is told true or false in a zone; None if it is not told."""
    return told_in(plan_of(book, [claim]), 0, View(zone))


def reach(book, *claims):
    """The least number of doublings that is above the units of all terms in the claims and in the book's facts."""
    return most_units(book, claims + tuple(book.facts)).bit_length()
