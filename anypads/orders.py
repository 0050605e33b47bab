"""Orders of the fields of a record, and the fewest of them that waste nothing on any machine of a book."""

from anypads.errors import NoOrder, NotRecord, TooLarge
from anypads.layout import Layout, align_on, need_kinds, packed_on, size_on
from anypads.looker import all_hold, is_false, is_of_book, shows
from anypads.parts import Record
from anypads.plans import add_same, plan_of, told_in
from anypads.splitting import Matter, let_leaves, split, tree_of
from anypads.words import is_whole
from anypads.zones import corner

MOST_FIELDS = 4


def ordered(record, order):
    """The record with its fields in this order."""
    need_order(record, order)
    return put_in_order(record, order)


def waste(machine, record, order):
    """How much greater the size of the record in this order is on a machine than its packed size."""
    need_order(record, order)
    need_kinds(record, machine.kinds)
    laid = Layout(machine)
    return size_on(laid, put_in_order(record, order)) - packed_on(laid, record)


def is_valley(machine, record, order):
    """Whether no field has a greater alignment than some field ahead of it, and than some field behind it."""
    need_order(record, order)
    need_kinds(record, machine.kinds)
    laid = Layout(machine)
    aligns = [align_on(laid, record.fields[at][1]) for at in order]
    for k, great in enumerate(aligns):
        if any([other < great for other in aligns[:k]]) and any([other < great for other in aligns[k + 1:]]):
            return False
    return True


def least_orders(book, name):
    """A list of (zone, orders): zones of all machines of the facts, and the orders that are least on these."""
    record = need_short(book, name)
    orders = all_orders(len(record))
    found = let_leaves(split_by_orders(book, record, orders))
    return [(zone, tuple([order for order, least in zip(orders, truths) if least])) for zone, truths in found]


def fewest_orders(book, name):
    """The paper (orders, tree, machines) with the fewest orders of which one is least on each machine of the facts."""
    record = need_short(book, name)
    orders = all_orders(len(record))
    nodes = split_by_orders(book, record, orders)
    sets = []
    machines = []
    for zone, truths in let_leaves(nodes):
        least = [at for at, truth in enumerate(truths) if truth]
        if least not in sets:
            sets.append(least)
            machines.append(corner(zone))
    chosen = fewest_meeting(sets, len(orders))
    return tuple([orders[at] for at in chosen]), tree_of(nodes), machines if len(chosen) > 1 else []


def shows_orders(book, name, thing):
    """Whether any value is a paper for orders of the record of a name."""
    record = need_short(book, name)
    if not isinstance(thing, tuple) or len(thing) != 3 or not are_orders(thing[0], len(record)):
        return False
    orders, tree, machines = thing
    plan, musts, wants = plan_of_orders(book, record, orders)
    if not are_let(book, plan, musts, machines) or are_too_many(record, len(orders), machines):
        return False
    return shows(book, tree, lambda view: is_false(plan, musts, view) or is_any_told(plan, wants, view))


def need_order(record, order):
    """Raises an error if any values are no record and an order of its fields."""
    if not isinstance(record, Record):
        raise NotRecord(None)
    if not isinstance(order, (list, tuple)) or len(order) != len(record):
        raise NoOrder(None)
    for at, index in enumerate(order):
        if not is_whole(index, 0, len(record) - 1) or index in order[:at]:
            raise NoOrder(at)


def need_short(book, name):
    """The resolved record of any value as a name, if it has few fields."""
    record = book.resolved(name) if name in book else None
    if not isinstance(record, Record):
        raise NotRecord(name)
    if len(record) > MOST_FIELDS:
        raise TooLarge("fields", MOST_FIELDS)
    return record


def put_in_order(record, order):
    """The record with its fields in an order of them."""
    return Record([record.fields[at] for at in order])


def all_orders(many):
    """The ascending list of all orders of so many fields."""
    orders = [()]
    for _ in range(many):
        orders = [order + (at,) for order in orders for at in range(many) if at not in order]
    return orders


def plan_of_orders(book, record, orders):
    """A plan of the facts and of what makes orders least, with the indexes of the facts and those of the orders."""
    plan = plan_of(book, book.facts)
    musts = list(range(len(plan.claims)))
    alike = {}
    wants = []
    for order in orders:
        # Orders of fields with the same parts have the same sizes.
        key = " ".join([record.fields[at][1].text for at in order])
        if key not in alike:
            alike[key] = add_same(plan, ("size", put_in_order(record, order), []), ("packed", record, []))
        wants.append(alike[key])
    return plan, musts, wants


def split_by_orders(book, record, orders):
    """The nodes at whose leaves the facts are told, and where these hold, whether each order is least."""
    plan, musts, wants = plan_of_orders(book, record, orders)
    return split(Matter(tuple(book.kinds), plan, musts, wants))


def fewest_meeting(sets, many):
    """The first of the shortest ascending tuples of indexes below `many` that has an index of each of the sets."""
    length = 1
    while True:
        found = meeting(sets, 0, many, length)
        if found is not None:
            return found
        length = length + 1


def meeting(sets, first, many, length):
    """The first ascending tuple of so many indexes from the first one on that has one of each of the sets; or None."""
    if length == 0:
        return None if sets else ()
    for at in range(first, many):
        behind = meeting([each for each in sets if at not in each], at + 1, many, length - 1)
        if behind is not None:
            return (at,) + behind
        if any([each[-1] <= at for each in sets]):
            return None
    return None


def are_orders(value, many):
    """Whether any value is an ascending tuple of one or more unlike orders of so many fields."""
    if not isinstance(value, tuple) or len(value) == 0:
        return False
    orders = all_orders(many)
    last = -1
    for order in value:
        # True equals 1, but is no index.
        if order not in orders[last + 1:] or not all([is_whole(at, 0, many - 1) for at in order]):
            return False
        last = orders.index(order)
    return True


def are_let(book, plan, musts, machines):
    """Whether any value is a list of machines on which the claims at some indexes of a plan hold."""
    if not isinstance(machines, list) or not all([is_of_book(book, machine) for machine in machines]):
        return False
    return all([all_hold(plan, musts, machine) for machine in machines])


def are_too_many(record, many, machines):
    """Whether fewer orders than so many, but one at least, have one that is least on each of some machines."""
    records = [put_in_order(record, order) for order in all_orders(len(record))]
    sets = []
    seen = {}
    for machine in machines:
        if machine.numbers not in seen:
            seen[machine.numbers] = True
            laid = Layout(machine)
            packed_size = packed_on(laid, record)
            least = [at for at, other in enumerate(records) if size_on(laid, other) == packed_size]
            if least not in sets:
                sets.append(least)
    return len(fewest_meeting(sets, len(records))) < many


def is_any_told(plan, wants, view):
    """Whether one of the claims at some indexes of a plan is told true."""
    for at in wants:
        if told_in(plan, at, view) is True:
            return True
    return False
