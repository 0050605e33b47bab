"""The fewest of some offered claims with which a claim always holds, and the fewest that bar one another."""

from anypads.claims import Claim, yes
from anypads.errors import NoClaim, NoOffer
from anypads.looker import all_hold, is_of_book, is_shown, is_tree, shows
from anypads.plans import plan_of, told_in
from anypads.splitting import Matter, let_leaves, split, tree_of
from anypads.trees import leaves
from anypads.views import View
from anypads.words import is_number
from anypads.zones import least_machine

MOST_OFFERED = 8


class Offer:
    """A claim and offered claims in a book: the claim is the first one of the plan, those offered are the next ones."""

    def __init__(self, book, claim, offered):
        need_offer(claim, offered)
        self.kinds = tuple(book.kinds)
        self.many = len(offered)
        self.plan = plan_of(book, [claim] + list(offered) + list(book.facts))


def choices(many):
    """Yields all choices of so many offered claims, the short ones first."""
    for length in range(many + 1):
        found = [()]
        for _ in range(length):
            found = [choice + (at,) for choice in found for at in range(choice[-1] + 1 if choice else 0, many)]
        for choice in found:
            yield choice


def fewest(book, claim, offered):
    """The first choice with which the claim always holds, and why none ahead of it does."""
    offer = Offer(book, claim, offered)
    leaves_found = told_leaves(offer)
    barring = []
    reasons = []
    for choice in choices(offer.many):
        let = let_by(leaves_found, choice)
        broken = [zone for zone, truths in let if not truths[0]]
        if let and not broken:
            machine = least_machine([zone for zone, truths in let])
            return "some", choice, machine, tree_for(offer, choice, [0]), tuple(reasons)
        tree = None if let else barring_tree(offer, choice, barring)
        reasons.append((choice, least_machine(broken), tree))
    return "none", tuple(reasons)


def fewest_barred(book, offered):
    """The first choice that is barred, and what none ahead of it is barred by."""
    offer = Offer(book, yes(), offered)
    leaves_found = told_leaves(offer)
    machines = []
    for choice in choices(offer.many):
        let = let_by(leaves_found, choice)
        if not let:
            return "some", choice, tree_for(offer, choice, []), tuple(machines)
        machines.append(least_machine([zone for zone, truths in let]))
    return "none", machines[-1]


def shows_fewest(book, claim, offered, thing):
    """Whether any value is what fewest tells, but for trees and machines, of which any that show it are fine."""
    offer = Offer(book, claim, offered)
    known = list(choices(offer.many))
    if is_form(thing, "none", 2):
        return are_reasons(book, offer, known, thing[1])
    if not is_form(thing, "some", 5) or not is_choice(thing[1], known):
        return False
    word, choice, machine, tree, reasons = thing
    musts = musts_of(offer, choice)
    if not is_let(book, offer, musts + [0], machine):
        return False
    if not are_reasons(book, offer, known[:known.index(choice)], reasons):
        return False
    return shows(book, tree, lambda view: is_shown(offer.plan, 0, musts, view))


def shows_barred(book, offered, thing):
    """Whether any value is what fewest_barred tells, but for trees and machines, of which any that show it are fine."""
    offer = Offer(book, yes(), offered)
    known = list(choices(offer.many))
    if is_form(thing, "none", 2):
        return is_let(book, offer, musts_of(offer, known[-1]), thing[1])
    if not is_form(thing, "some", 4) or not is_choice(thing[1], known):
        return False
    word, choice, tree, machines = thing
    ahead = known[:known.index(choice)]
    if not isinstance(machines, tuple) or len(machines) != len(ahead):
        return False
    if not all([is_let(book, offer, musts_of(offer, each), machine) for each, machine in zip(ahead, machines)]):
        return False
    return shows_bar(book, offer, choice, tree, [])


def need_offer(claim, offered):
    """Raises an error if any values are no claim and no list or tuple of a few claims."""
    if not isinstance(claim, Claim):
        raise NoClaim(0)
    if not isinstance(offered, (list, tuple)) or len(offered) > MOST_OFFERED:
        raise NoOffer(None)
    for at, each in enumerate(offered):
        if not isinstance(each, Claim):
            raise NoOffer(at)


def musts_of(offer, choice):
    """The indexes in the plan of the facts and of the claims of a choice."""
    return list(range(1 + offer.many, len(offer.plan.claims))) + [1 + at for at in choice]


def told_leaves(offer):
    """A list of (zone, truths) for zones of all machines of the facts: truths of the claim and of those offered."""
    wants = list(range(1 + offer.many))
    return let_leaves(split(Matter(offer.kinds, offer.plan, musts_of(offer, ()), wants)))


def let_by(leaves_found, choice):
    """Those of the leaves at which all claims of a choice hold."""
    return [(zone, truths) for zone, truths in leaves_found if all([truths[1 + at] for at in choice])]


def tree_for(offer, choice, wants):
    """A tree that tells the facts and the claims of a choice, and beside them what is wanted."""
    return tree_of(split(Matter(offer.kinds, offer.plan, musts_of(offer, choice), wants)))


def barring_tree(offer, choice, barring):
    """A tree that shows that a choice is barred; `barring` has such trees of choices ahead, and gets this one."""
    for other, tree in barring:
        # What bars a choice bars all longer ones.
        if all([at in choice for at in other]):
            return tree
    tree = tree_for(offer, choice, [])
    barring.append((choice, tree))
    return tree


def is_form(thing, word, many):
    """Whether any value is a tuple of so many values with this word ahead."""
    return isinstance(thing, tuple) and len(thing) == many and thing[0] == word


def is_choice(value, known):
    """Whether any value is one of these choices."""
    return isinstance(value, tuple) and value in known and all([is_number(at) for at in value])


def is_let(book, offer, musts, machine):
    """Whether any value is a machine on which the claims at some indexes of the plan hold."""
    return is_of_book(book, machine) and all_hold(offer.plan, musts, machine)


def shows_bar(book, offer, choice, tree, seen):
    """Whether any value is a tree that shows that a choice is barred.

    The list `seen` has pairs of trees and what false_at tells of them; it gets this one.
    """
    if not is_tree(book, tree):
        return False
    found = [falsehoods for other, falsehoods in seen if other == tree]
    if not found:
        found = [false_at(book, offer, tree)]
        seen.append((tree, found[0]))
    musts = musts_of(offer, choice)
    return all([any([at in falsehoods for at in musts]) for falsehoods in found[0]])


def false_at(book, offer, tree):
    """A list of the indexes of the claims that are told false, for each leaf of a tree that has a machine."""
    found = []
    for zone in leaves(book, tree):
        view = View(zone)
        found.append([at for at in range(len(offer.plan.claims)) if told_in(offer.plan, at, view) is False])
    return found


def are_reasons(book, offer, ahead, reasons):
    """Whether any value is a tuple of reasons why none of these choices does."""
    if not isinstance(reasons, tuple) or len(reasons) != len(ahead):
        return False
    # What bars a choice bars longer ones too, so that one tree may stand in many reasons.
    seen = []
    for choice, reason in zip(ahead, reasons):
        if not is_reason(book, offer, choice, reason, seen):
            return False
    return True


def is_reason(book, offer, choice, reason, seen):
    """Whether any value is a reason why a choice does not do; `seen` is as in shows_bar."""
    if not isinstance(reason, tuple) or len(reason) != 3 or not is_choice(reason[0], [choice]):
        return False
    machine, tree = reason[1:]
    if machine is None:
        return shows_bar(book, offer, choice, tree, seen)
    if tree is not None or not is_let(book, offer, musts_of(offer, choice), machine):
        return False
    return not all_hold(offer.plan, [0], machine)
