"""Whether trees and machines show what is said of a claim: nothing is searched for here."""

from anypads.claims import no
from anypads.layout import Layout
from anypads.machines import Machine, rank_of
from anypads.plans import holds_on, told_in
from anypads.trees import LEAF, leaves
from anypads.verdicts import asked_plan
from anypads.views import View
from anypads.words import is_whole
from anypads.zones import Zone, least_numbers


def is_tree(book, thing):
    """Whether any value is a tree for the kinds of the book."""
    names = Zone.of(book.kinds).order
    rest = [thing]
    while rest:
        node = rest.pop()
        if is_question(node, names):
            rest.extend([node[5], node[4]])
        elif not is_leaf(node):
            return False
    return True


def shows_always(book, claim, thing, given=()):
    """Whether any value is a tree that shows that the claim always holds."""
    plan = asked_plan(book, [claim] + list(given))
    musts = behind_first(plan)
    return shows(book, thing, lambda view: is_shown(plan, 0, musts, view))


def shows_breaks(book, claim, machine, given=()):
    """Whether any value is a machine on which all facts hold and the claim does not."""
    return breaks_first(book, asked_plan(book, [claim] + list(given)), machine)


def shows_least(book, claim, machine, thing, given=()):
    """Whether any values are such a machine, and a tree that shows that there is no lesser one."""
    plan = asked_plan(book, [claim] + list(given))
    if not breaks_first(book, plan, machine):
        return False
    musts = behind_first(plan)
    return shows(book, thing, lambda view: not is_below(view, machine) or is_shown(plan, 0, musts, view))


def shows_nothing(book, thing, given=()):
    """Whether any value is a tree that shows that no machine is let."""
    # The given claims are counted from 1.
    plan = asked_plan(book, [no()] + list(given))
    musts = behind_first(plan)
    return shows(book, thing, lambda view: is_false(plan, musts, view))


def is_question(node, names):
    """Whether any value is a question about two of these names, whatever stands behind it."""
    if not isinstance(node, tuple) or len(node) != 6 or node[0] != "ask":
        return False
    return node[1] in names and node[2] in names and node[1] != node[2] and is_whole(node[3], -Zone.MOST, Zone.MOST)


def is_leaf(node):
    """Whether any value is a leaf."""
    return isinstance(node, tuple) and node == LEAF


def shows(book, thing, fits):
    """Whether any value is a tree, and each of its leaves that have a machine fits: a function of a view tells."""
    if not is_tree(book, thing):
        return False
    for zone in leaves(book, thing):
        if not fits(View(zone)):
            return False
    return True


def behind_first(plan):
    """The indexes of all claims of a plan but the first one."""
    return list(range(1, len(plan.claims)))


def is_below(view, machine):
    """Whether the least corner of a view's zone is less than a machine."""
    return rank_of(least_numbers(view.zone)) < rank_of(machine.numbers)


def is_false(plan, musts, view):
    """Whether one of the claims at some indexes of a plan is told false."""
    for at in musts:
        if told_in(plan, at, view) is False:
            return True
    return False


def is_shown(plan, at, musts, view):
    """Whether one of the claims at some indexes of a plan is told false, or the claim at another one is told true."""
    return is_false(plan, musts, view) or told_in(plan, at, view) is True


def is_of_book(book, thing):
    """Whether any value is a machine of the book's kinds, in their order."""
    return isinstance(thing, Machine) and thing.kinds == tuple(book.kinds)


def all_hold(plan, musts, machine):
    """Whether the claims at some indexes of a plan hold on a machine of its kinds."""
    laid = Layout(machine)
    for at in musts:
        if not holds_on(plan, at, laid):
            return False
    return True


def breaks_first(book, plan, machine):
    """Whether any value is a machine of the book on which all claims of the plan hold, but not the first one."""
    if not is_of_book(book, machine) or not all_hold(plan, behind_first(plan), machine):
        return False
    return not all_hold(plan, [0], machine)
