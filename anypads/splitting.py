"""Zones that are split by questions until all that is asked of them is told."""

from anypads.plans import Known, bearing_rows, open_rows, row_at, row_numbers, slot_at, truths_in
from anypads.trees import LEAF
from anypads.views import View
from anypads.zones import Zone


class Matter:
    """What is asked: indexes in a plan.

    `musts` are claims that must hold; where one of them is false, nothing else is asked. All of `wants`, claims, and
    of `slots`, simple terms, must be told.
    """

    def __init__(self, kinds, plan, musts, wants=(), slots=()):
        self.kinds = kinds
        self.plan = plan
        self.musts = musts
        self.wants = wants
        self.slots = slots


class Node:
    """A zone that has points, with the question by which it was split; or None, and what is told of it.

    The truths are those of what is wanted, a tuple; None where something is false that must hold.
    """

    def __init__(self, zone, question, truths):
        self.zone = zone
        self.question = question
        self.truths = truths


def split(matter):
    """The list of nodes into which the zone of all machines is split, each ahead of its side of yes, then of no."""
    rest = [(Zone.of(matter.kinds), Known({}, {}))]
    nodes = []
    while rest:
        zone, known = rest.pop()
        question, truths = looked_at(matter, View(zone), known)
        nodes.append(Node(zone, question, truths))
        if question is not None:
            put_sides(rest, zone, question, known)
    return nodes


def lets(matter):
    """Whether all that must hold does so somewhere."""
    rest = [(Zone.of(matter.kinds), Known({}, {}))]
    while rest:
        zone, known = rest.pop()
        question, truths = looked_at(matter, View(zone), known)
        if question is not None:
            put_sides(rest, zone, question, known)
        elif truths is not None:
            return True
    return False


def put_sides(rest, zone, question, known):
    """Puts the two sides of a zone on a list, that of yes last, since what is put last is taken first."""
    i, j, c = question
    inside, outside = zone.sides(i, j, c)
    rest.append((outside, Known(dict(known.truths), dict(known.numbers))))
    rest.append((inside, known))


def let_leaves(nodes):
    """The list of (zone, truths) for the nodes that are not split, and in which all holds that must."""
    return [(node.zone, node.truths) for node in nodes if node.truths is not None]


def let_zones(nodes):
    """The list of zones that make up those of let_leaves, as few of the nodes as do."""
    done = []
    for node in nodes[::-1]:
        if node.question is None:
            done.append((node.truths is not None, [node.zone] if node.truths is not None else []))
        else:
            yes_full, yes_zones = done.pop()
            no_full, no_zones = done.pop()
            is_full = yes_full and no_full
            done.append((is_full, [node.zone] if is_full else yes_zones + no_zones))
    return done[0][1]


def tree_of(nodes):
    """The tree of the questions of nodes."""
    done = []
    for node in nodes[::-1]:
        if node.question is None:
            done.append(LEAF)
        else:
            i, j, c = node.question
            yes_tree = done.pop()
            no_tree = done.pop()
            done.append(("ask", i, j, c, yes_tree, no_tree))
    return done[0]


def looked_at(matter, view, known):
    """A question to split the view's zone by, or None; and behind None the truths of what is wanted, as split tells.

    What is told here is put to what is known.
    """
    question, truths, rows = looked_with(matter, view, known)
    while question is None:
        # What is told in a greater zone is true here, too, but rounding can be stuck here where it was not there.
        around = {k: True for k in rows if k not in view.rows}
        stale = [k for k in around if row_numbers(matter.plan, k, view)[0] != known.numbers[k]]
        if not stale:
            return None, truths
        for k in stale:
            del known.truths[k]
        question, truths, rows = looked_with(matter, view, known)
    i, j, c = question
    return (view.order[i], view.order[j], c), None


def looked_with(matter, view, known):
    """As looked_at tells, with what is known: (question, truths, rows).

    The question has the indexes of names; the rows are enough to tell the truths.
    """
    asked = None
    bearing = []
    for at in matter.musts:
        truth, question, rows = claim_at(matter.plan, at, view, known)
        if truth is False:
            return None, None, rows
        if asked is None:
            asked = question
        bearing.extend(rows)
    if asked is not None:
        return asked, None, []
    truths = []
    for at in matter.wants:
        truth, question, rows = claim_at(matter.plan, at, view, known)
        if truth is None:
            return question, None, rows
        truths.append(truth)
        bearing.extend(rows)
    for slot in matter.slots:
        form, question = slot_at(matter.plan, slot, view)
        if form is None:
            return question, None, []
    return None, tuple(truths), bearing


def claim_at(plan, at, view, known):
    """What is told of a claim in the view's zone with what is known: (truth, question, rows that are enough for it)."""
    steps = plan.claims[at]
    truths = truths_in(plan, at, view, known)
    if truths[-1] is not None:
        return truths[-1], None, bearing_rows(steps, truths)
    return None, most_frequent([row_at(plan, k, view)[2] for k in open_rows(steps, truths)]), []


def most_frequent(questions):
    """The first one of those questions that occur most often."""
    counts = {}
    for question in questions:
        counts[question] = counts.get(question, 0) + 1
    most = max([int(counts[question]) for question in counts])
    return [question for question in counts if counts[question] == most][0]
