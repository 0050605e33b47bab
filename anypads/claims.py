"""Claims: comparisons of terms, four sorts that the book tells, and what and, or, not make of them."""

from anypads.errors import BadName, NoTerm
from anypads.parts import Record, need_path
from anypads.rules import is_at_most, is_same
from anypads.terms import Term, end, named_part, named_record, need_machine, need_steps, need_term, need_units
from anypads.terms import packed, parts_of, place, settled_form, size, units_in, value_on
from anypads.words import is_name

COMPARISONS = ("<=", "<", "=")
JOINS = ("and", "or")


class Claim:
    """A claim.

    `steps` tell it with each join behind what it joins: (word, term, term) for a comparison, ("yes",), ("no",),
    ("nogap", name, path), ("notail", name), ("leastorder", name), ("for", name, name), and ("not",), which takes the
    claim that has just ended, ("and",) and ("or",), which take the two that have just ended.
    """

    def __init__(self, steps):
        self.steps = steps

    def __and__(self, other):
        if not isinstance(other, Claim):
            return NotImplemented
        return Claim(self.steps + other.steps + (("and",),))

    def __or__(self, other):
        if not isinstance(other, Claim):
            return NotImplemented
        return Claim(self.steps + other.steps + (("or",),))

    def __invert__(self):
        return Claim(self.steps + (("not",),))

    def __eq__(self, other):
        return isinstance(other, Claim) and self.steps == other.steps

    def __str__(self):
        return str(text_of(self.steps))

    @staticmethod
    def is_claim(thing):
        """Whether anything is a claim."""
        return isinstance(thing, Claim)

    def named(self):
        """The ascending tuple of the names in it."""
        found = {name: True for step in self.steps for name in names_in(step)}
        return tuple(sorted([str(name) for name in found]))


def at_most(one, other):
    """The claim that the one term is at most the other one."""
    return comparison("<=", one, other)


def less(one, other):
    """The claim that the one term is less than the other one."""
    return comparison("<", one, other)


def same(one, other):
    """The claim that two terms are the same."""
    return comparison("=", one, other)


def yes():
    """The claim that holds always."""
    return Claim((("yes",),))


def no():
    """The claim that never holds."""
    return Claim((("no",),))


def no_gap(name, path):
    """The claim that nothing is left free ahead of a path."""
    need_steps(name, path)
    return Claim((("nogap", name, path),))


def no_tail(name):
    """The claim that nothing is left free behind the last field of a record."""
    need_name(name)
    return Claim((("notail", name),))


def least_order(name):
    """The claim that no order of a record's fields has a lesser size."""
    need_name(name)
    return Claim((("leastorder", name),))


def stands_in(one, other):
    """The claim that all paths of the other part are in the one, too, with equal parts at the same places."""
    need_name(one)
    need_name(other)
    return Claim((("for", one, other),))


def comparison(word, one, other):
    """The comparison of any values as terms."""
    for at, term in enumerate((one, other)):
        if not isinstance(term, Term):
            raise NoTerm(at)
    return Claim(((word, one, other),))


def need_name(name):
    """Raises BadName if any value is no name."""
    if not is_name(name):
        raise BadName(name)


def names_in(step):
    """The names in a step of a claim."""
    if step[0] in COMPARISONS:
        return step[1].named() + step[2].named()
    return step[1:2] if step[0] == "nogap" else step[1:]


def text_of(steps):
    """How a claim of these steps is written."""
    texts = []
    for step in steps:
        if step[0] in JOINS:
            right = texts.pop()
            left = texts.pop()
            texts.append(f"({left}) {step[0]} ({right})")
        elif step[0] == "not":
            inner = texts.pop()
            texts.append(f"not ({inner})")
        else:
            texts.append(step_text(step))
    return texts[0]


def step_text(step):
    """How a step that takes no other claims is written."""
    if step[0] in COMPARISONS:
        return f"{step[1]} {step[0]} {step[2]}"
    if step[0] == "for":
        return f"{step[1]} for {step[2]}"
    return " ".join(step)


def plain(book, claim):
    """The claim with comparisons in the place of what the book tells."""
    parts, steps = opened(book, claim)
    return Claim(tuple(steps))


def holds(book, claim, machine):
    """Whether a claim holds on a machine."""
    need_machine(book, machine)
    parts, steps = opened(book, claim)
    return joined_truth(steps, [truth_on(parts, step, machine) for step in steps])


def told(book, claim, zone):
    """Whether a claim is told true or false in a zone; None if it is not told."""
    parts, steps = opened(book, claim)
    return joined_truth(steps, [truth_in(parts, step, zone) for step in steps])


def reach(book, *claims):
    """The least number of doublings that is above the units of all terms in the claims and in the book's facts."""
    found = []
    for claim in claims + tuple(book.facts):
        parts, steps = opened(book, claim)
        found.extend([units_in(parts, term) for term in terms_in(steps)])
    most = max([int(many) for many in found], default=0)
    return most.bit_length()


def opened(book, claim):
    """The parts of the names in a claim, and its steps with comparisons alone; raises what a claim in a book raises."""
    parts = parts_of(book, claim.named())
    steps = []
    for step in claim.steps:
        steps.extend(plain_steps(parts, step))
    need_units(parts, terms_in(steps))
    return parts, steps


def terms_in(steps):
    """The terms of the comparisons among steps."""
    return [term for step in steps if step[0] in COMPARISONS for term in step[1:]]


def plain_steps(parts, step):
    """The steps that stand for one step, with comparisons alone; raises an error for names that are not there."""
    word = step[0]
    if word in COMPARISONS:
        need_term(parts, step[1])
        need_term(parts, step[2])
        return [step]
    if word == "nogap":
        return gap_steps(parts, step[1], step[2])
    if word == "notail":
        last, part = named_record(parts, step[1]).fields[-1]
        return [("=", size(step[1]), end(step[1], last))]
    if word == "leastorder":
        named_record(parts, step[1])
        return [("=", size(step[1]), packed(step[1]))]
    if word == "for":
        return stand_steps(parts, step[1], step[2])
    return [step]


def gap_steps(parts, name, path):
    """The steps that stand for no gap ahead of a path."""
    part = named_part(parts, name)
    need_path(part, path)
    head, dot, last = path.rpartition(".")
    group = part[head] if dot else part
    if not isinstance(group, Record) or group.fields[0][0] == last:
        return [("yes",)]
    fields = [field for field, inner in group.fields]
    ahead = fields[fields.index(last) - 1]
    return [("=", place(name, path), end(name, f"{head}{dot}{ahead}"))]


def stand_steps(parts, one, other):
    """The steps that stand for the one name for the other one."""
    part = named_part(parts, one)
    model = named_part(parts, other)
    steps = []
    for path in model.paths():
        if path not in part or part[path] != model[path]:
            return [("no",)]
        steps.append(("=", place(one, path), place(other, path)))
        if len(steps) > 1:
            steps.append(("and",))
    return steps if steps else [("yes",)]


def truth_on(parts, step, machine):
    """Whether a step that takes no other claims holds on a machine; None for the others."""
    if step[0] not in COMPARISONS:
        return set_truth(step)
    one = value_on(parts, step[1], machine)
    other = value_on(parts, step[2], machine)
    if step[0] == "=":
        return one == other
    return one < other if step[0] == "<" else one <= other


def truth_in(parts, step, zone):
    """Whether a step that takes no other claims is told in a zone; None for the others, and if it is not told."""
    if step[0] not in COMPARISONS:
        return set_truth(step)
    one = settled_form(parts, step[1], zone)
    other = settled_form(parts, step[2], zone)
    if one is None or other is None:
        return None
    if step[0] == "=":
        return is_same(zone, one, other)
    return turned(is_at_most(zone, other, one)) if step[0] == "<" else is_at_most(zone, one, other)


def set_truth(step):
    """True for yes, False for no, None for what takes other claims."""
    return step[0] == "yes" if step[0] in ("yes", "no") else None


def joined_truth(steps, truths):
    """True, False or None: what steps make of the truths of those of them that take no other claims."""
    found = []
    for step, truth in zip(steps, truths):
        if step[0] in JOINS:
            right = found.pop()
            left = found.pop()
            found.append(both(left, right) if step[0] == "and" else turned(both(turned(left), turned(right))))
        elif step[0] == "not":
            inner = found.pop()
            found.append(turned(inner))
        else:
            found.append(truth)
    return found[0]


def turned(truth):
    """The other truth; None for None."""
    return None if truth is None else not truth


def both(one, other):
    """Whether two truths both are; None if that is not told."""
    if one is False or other is False:
        return False
    return None if one is None or other is None else True
