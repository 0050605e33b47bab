"""Claims and terms in a book, made ready to be told in many zones and on many machines."""

from anypads.parts import Record, need_path
from anypads.terms import end, met, named_part, named_record, need_term, need_units, packed, parts_of, place
from anypads.terms import simple_form, simple_value, size, units_in
from anypads.views import added, is_at_most, is_same, times

COMPARISONS = ("<=", "<", "=")
JOINS = ("and", "or")
FEW = 8


class Plan:
    """Claims and terms for the parts that a book has now.

    `parts` has the resolved parts of names, and `slots` what the different simple terms stand for.
    `rows` has the different comparisons, tuples (word, needed, net): the indexes of the slots that must be settled,
    and pairs (slot, many) for the one term less the other one. `claims` has a list of steps for each claim, tuples
    (word, one, other): ("row", index of the row, None), ("yes", None, None), ("no", None, None), ("not", index of an
    earlier step, None), ("and", index, index), ("or", index, index).
    """

    def __init__(self):
        self.parts = {}
        self.slots = []
        self.rows = []
        self.claims = []
        self.places = {}


def plan_of(book, claims):
    """A plan of claims; raises, claim by claim, what claims in a book raise."""
    plan = Plan()
    for claim in claims:
        add_claim(plan, opened(book, claim, plan.parts))
    return plan


def opened(book, claim, parts):
    """The steps of a claim, with comparisons alone; raises what a claim in a book raises.

    The dict `parts` gets the resolved parts of the names in it.
    """
    parts.update(parts_of(book, [name for name in claim.named() if name not in parts]))
    steps = []
    for step in claim.steps:
        steps.extend(plain_steps(parts, step))
    need_units(parts, terms_in(steps))
    return steps


def terms_in(steps):
    """The terms of the comparisons among steps."""
    return [term for step in steps if step[0] in COMPARISONS for term in step[1:]]


def most_units(book, claims):
    """The greatest units of a term in the comparisons of claims; raises, claim by claim, what claims raise."""
    found = []
    parts = {}
    for claim in claims:
        found.extend([units_in(parts, term) for term in terms_in(opened(book, claim, parts))])
    return max([int(many) for many in found], default=0)


def plain_steps(parts, step):
    """The steps that stand for one step, with comparisons alone; raises an error for names that are not there."""
    word = step[0]
    if word in COMPARISONS:
        need_term(parts, step[1])
        need_term(parts, step[2])
        return [step]
    if word == "nogap":
        return gap_steps(parts, step[1], step[2])
    if word == "notail":
        last, part = named_record(parts, step[1]).fields[-1]
        return [("=", size(step[1]), end(step[1], last))]
    if word == "leastorder":
        named_record(parts, step[1])
        return [("=", size(step[1]), packed(step[1]))]
    if word == "for":
        return stand_steps(parts, step[1], step[2])
    return [step]


def gap_steps(parts, name, path):
    """The steps that stand for no gap ahead of a path."""
    part = named_part(parts, name)
    need_path(part, path)
    head, dot, last = path.rpartition(".")
    group = part[head] if dot else part
    if not isinstance(group, Record) or group.fields[0][0] == last:
        return [("yes",)]
    fields = [field for field, inner in group.fields]
    ahead = fields[fields.index(last) - 1]
    return [("=", place(name, path), end(name, f"{head}{dot}{ahead}"))]


def stand_steps(parts, one, other):
    """The steps that stand for the one name for the other one."""
    part = named_part(parts, one)
    model = named_part(parts, other)
    steps = []
    for path in model.paths():
        if path not in part or part[path] != model[path]:
            return [("no",)]
        steps.append(("=", place(one, path), place(other, path)))
        if len(steps) > 1:
            steps.append(("and",))
    return steps if steps else [("yes",)]


# Making a plan.


def add_claim(plan, steps):
    """Puts a claim, steps with comparisons alone, behind the others of a plan, and returns its index."""
    made = []
    ends = []
    for step in steps:
        word = step[0]
        if word in COMPARISONS:
            made.append(("row", row_of(plan, step), None))
        elif word in JOINS:
            right = ends.pop()
            made.append((word, ends.pop(), right))
        else:
            made.append((word, ends.pop() if word == "not" else None, None))
        ends.append(len(made) - 1)
    plan.claims.append(made)
    return len(plan.claims) - 1


def row_of(plan, step):
    """The index of a comparison in a plan, in which it is put."""
    word, one, other = step
    key = f"{one} {word} {other}"
    if key not in plan.places:
        net = {}
        for sign, term in ((1, one), (-1, other)):
            for many, about, name, path in term.simple:
                slot = slot_of(plan, (about, name, path))
                net[slot] = net.get(slot, 0) + sign * many
        plan.places[key] = len(plan.rows)
        plan.rows.append((word, list(net), [(slot, net[slot]) for slot in net if net[slot] != 0]))
    return plan.places[key]


def slot_of(plan, simple):
    """The index of a simple term, a tuple (word, name, path), in a plan, in which it is put."""
    if simple not in plan.places:
        plan.places[simple] = len(plan.slots)
        plan.slots.append(met(plan.parts, simple))
    return plan.places[simple]


def add_same(plan, one, other):
    """Puts the claim that two simple terms are the same behind the others of a plan, and returns its index.

    The terms are told by what they stand for, as anypads.terms tells it.
    """
    plan.slots.extend([one, other])
    last = len(plan.slots) - 1
    plan.rows.append(("=", [last - 1, last], [(last - 1, 1), (last, -1)]))
    plan.claims.append([("row", len(plan.rows) - 1, None)])
    return len(plan.claims) - 1


def rows_in(steps):
    """The indexes of the rows in the steps of a claim."""
    return [one for word, one, other in steps if word == "row"]


# On a machine.


def holds_on(plan, at, laid):
    """Whether the claim at an index holds on the machine of a layout."""
    steps = plan.claims[at]
    return truths_along(steps, {k: row_on(plan, k, laid) for k in rows_in(steps)})[-1]


def row_on(plan, k, laid):
    """Whether a comparison holds on the machine of a layout."""
    word, needed, net = plan.rows[k]
    apart = sum([many * simple_value(laid, plan.slots[slot]) for slot, many in net])
    if word == "=":
        return apart == 0
    return apart < 0 if word == "<" else apart <= 0


# In a zone.


class Known:
    """What was told of the comparisons of a plan, and with which numbers, in a zone and in zones around it."""

    def __init__(self, truths, numbers):
        self.truths = truths
        self.numbers = numbers


def told_in(plan, at, view):
    """Whether the claim at an index is told in the zone of a view."""
    return truths_in(plan, at, view, Known({}, {}))[-1]


def truths_in(plan, at, view, known):
    """The truths of the steps of the claim at an index in the zone of a view, with what is known, which gets more.

    If the last one is None, all comparisons on which it hangs have been looked at.
    """
    steps = plan.claims[at]
    looked = {}
    many = FEW
    while True:
        truths = truths_along(steps, known.truths)
        rest = [k for k in open_rows(steps, truths) if k not in looked] if truths[-1] is None else []
        if not rest:
            return truths
        # What the first ones tell is often enough.
        for k in rest[:many]:
            looked[k] = True
            truth, numbers, question = row_at(plan, k, view)
            if truth is not None:
                known.truths[k] = truth
                known.numbers[k] = numbers
        many = many * FEW


def slot_at(plan, slot, view):
    """The pair (form, question) of a simple term in the zone of a view."""
    if slot not in view.slots:
        view.slots[slot] = simple_form(view, plan.slots[slot])
    return view.slots[slot]


def row_at(plan, k, view):
    """What is told of a comparison in the zone of a view: (truth, numbers, question)."""
    if k not in view.rows:
        numbers, question = row_numbers(plan, k, view)
        truth = None
        if numbers is not None:
            truth, question = row_truth(plan, k, view, numbers)
        view.rows[k] = (truth, numbers, question)
    return view.rows[k]


def row_numbers(plan, k, view):
    """The pair (numbers, question) of the one term of a comparison less the other one in the zone of a view."""
    word, needed, net = plan.rows[k]
    for slot in needed:
        form, question = slot_at(plan, slot, view)
        if form is None:
            return None, question
    numbers = tuple([0 for name in view.order])
    for slot, many in net:
        numbers = added(numbers, many, view.slots[slot][0])
    return numbers, None


def row_truth(plan, k, view, numbers):
    """The pair (truth, question) of a comparison with these numbers in the zone of a view."""
    word, needed, net = plan.rows[k]
    if word == "=":
        return is_same(view, numbers)
    if word == "<=":
        return is_at_most(view, numbers)
    truth, question = is_at_most(view, times(-1, numbers))
    return turned(truth), question


# Truths: True, False, and None for what is not told.


def truths_along(steps, rows):
    """The list of the truths of all steps of a claim; the dict `rows` has those of its comparisons that are told."""
    truths = []
    for word, one, other in steps:
        if word == "row":
            truths.append(rows.get(one))
        elif word == "not":
            truths.append(turned(truths[one]))
        elif word == "and":
            truths.append(both(truths[one], truths[other]))
        elif word == "or":
            truths.append(turned(both(turned(truths[one]), turned(truths[other]))))
        else:
            truths.append(word == "yes")
    return truths


def open_rows(steps, truths):
    """The indexes of the comparisons on which the truth of a claim hangs, the last of these truths, which is None."""
    found = []
    rest = [len(steps) - 1]
    while rest:
        word, one, other = steps[rest.pop()]
        if word == "row":
            found.append(one)
        else:
            rest.extend([at for at in (other, one) if at is not None and truths[at] is None])
    return found


def bearing_rows(steps, truths):
    """The indexes of comparisons that are enough to tell a claim, the last of these truths, which is not None."""
    found = []
    rest = [len(steps) - 1]
    while rest:
        at = rest.pop()
        word, one, other = steps[at]
        if word == "row":
            found.append(one)
        elif word == "not":
            rest.append(one)
        elif word in JOINS and truths[at] == (word == "and"):
            rest.extend([other, one])
        elif word in JOINS:
            rest.append(one if truths[one] == truths[at] else other)
    return found


def turned(truth):
    """The other truth; None for None."""
    return None if truth is None else not truth


def both(one, other):
    """Whether two truths both are; None if that is not told."""
    if one is False or other is False:
        return False
    return None if one is None or other is None else True
