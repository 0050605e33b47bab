"""Zones, forms, parts, books and claims that are drawn, always the same ones, and machines with small exponents."""

import itertools

from anypads.books import Book
from anypads.claims import at_most, least_order, less, no, no_gap, no_tail, same, stands_in, yes
from anypads.errors import Barred
from anypads.forms import Form
from anypads.machines import Machine
from anypads.parts import Byte, Kind, Overlay, Record, Row, Use
from anypads.terms import align, end, number, packed, place, size
from anypads.zones import Zone

KINDS = [Kind("a"), Kind("b", 2), Kind("c", 3)]


def drawn_zone(rng, kinds, most=3):
    """A zone that is not empty."""
    while True:
        zone = Zone.of(kinds)
        for _ in range(rng.randint(0, 5)):
            i, j = rng.sample(zone.order, 2)
            zone = zone.within(i, j, rng.randint(-most, most))
        if zone:
            return zone


def exact_zone(rng, kinds, most, least_apart):
    """A zone in which each two neighbours differ by an exact number, or by `least_apart` or more."""
    numbers = {"byte": 0}
    for kind in kinds:
        numbers[f"size {kind.name}"] = rng.randint(0, most)
        numbers[f"align {kind.name}"] = rng.randint(0, numbers[f"size {kind.name}"])
    names = sorted(numbers, key=lambda name: numbers[name])
    zone = Zone.of(kinds)
    for low, high in zip(names, names[1:]):
        apart = numbers[high] - numbers[low]
        if apart and rng.random() < 0.5:
            zone = zone.within(low, high, -least_apart)
        else:
            zone = zone.within(low, high, -apart).within(high, low, apart)
    return zone


def drawn_form(rng, zone, most=12):
    scales = rng.sample(zone.order, rng.randint(0, len(zone.order)))
    return Form({scale: rng.choice([0, 1, 2, 3, 4, 8, rng.randint(0, most)]) for scale in scales})


def drawn_part(rng, kinds, depth, least=0):
    if depth == 0:
        return rng.choice([Byte()] + list(kinds) * 2)
    shape = rng.randint(least, 5)
    if shape == 0:
        return drawn_part(rng, kinds, 0)
    inner = [drawn_part(rng, kinds, depth - 1) for _ in range(rng.randint(1, 4))]
    pairs = list(zip("wxyz", inner))
    if shape == 1:
        return Row(inner[0], rng.randint(1, 5))
    return Overlay(pairs) if shape == 2 else Record(pairs)


def machines_in(zone, most):
    """The machines of a zone with exponents up to a number."""
    for point in zone.walk(most):
        numbers = list(point.values())
        names = [kind.name for kind in zone.kinds]
        yield Machine(zone.kinds, dict(zip(names, zip(numbers[0::2], numbers[1::2]))))


def every_path(part):
    """All paths of a part, those through elements too."""
    if isinstance(part, Row):
        steps = [(str(at), part.part) for at in range(part.n)]
    else:
        steps = getattr(part, "fields", getattr(part, "members", ()))
    for step, inner in steps:
        yield step
        for path in every_path(inner):
            yield f"{step}.{path}"


def machines_up_to(kinds, most):
    """The ascending list of all machines of these kinds with exponents up to a number, made by hand."""
    pairs = [(s, a) for s in range(most + 1) for a in range(s + 1)]
    found = []
    for each in itertools.product(pairs, repeat=len(kinds)):
        found.append(Machine(kinds, {kind.name: pair for kind, pair in zip(kinds, each)}))
    return sorted(found, key=by_order)


def by_order(machine):
    """By what point 8 orders machines."""
    numbers = [machine[scale] for scale in machine.scales]
    return max(numbers), numbers


def drawn_book(rng, kinds, depth=2, facts=2):
    """A book with the parts p, q and r, the last of which uses the others, and a few facts."""
    book = Book(*kinds)
    book["p"] = Record([("w", drawn_part(rng, kinds, depth)), ("x", drawn_part(rng, kinds, 1)), ("y", drawn_part(rng, kinds, 0))])
    book["q"] = Record([("x", drawn_part(rng, kinds, 1)), ("w", drawn_part(rng, kinds, 0))])
    book["r"] = rng.choice([
        Record([("a", Use("p")), ("b", Row(Use("q"), 2))]), Overlay([("a", Use("p")), ("b", Use("q"))]), Record([("b", Use("q"))]),
    ])
    for _ in range(rng.randint(0, facts)):
        try:
            book += drawn_claim(rng, book)
        except Barred:
            pass
    return book


def drawn_term(rng, book):
    name = rng.choice(list(book.names) + [kind.name for kind in book.kinds])
    part = book.resolved(name)
    paths = list(every_path(part))
    told = [size(name), align(name), number(rng.randint(0, 20)), rng.randint(1, 4) * size(name)]
    if paths:
        told += [place(name, rng.choice(paths)), end(name, rng.choice(paths))]
    if isinstance(part, Record):
        told.append(packed(name))
    one = rng.choice(told)
    return one + drawn_term(rng, book) if rng.random() < 0.15 else one


def drawn_simple(rng, book):
    name = rng.choice(["p", "q"])
    path = rng.choice(list(every_path(book.resolved(name))))
    sorts = [no_gap(name, path), no_tail(name), least_order(name), stands_in(name, rng.choice(["p", "q", "r"])), yes(), no()]
    return rng.choice(sorts + [rng.choice([at_most, less, same])(drawn_term(rng, book), drawn_term(rng, book)) for _ in range(9)])


def drawn_claim(rng, book, depth=2):
    if depth == 0 or rng.random() < 0.4:
        return drawn_simple(rng, book)
    one, other = drawn_claim(rng, book, depth - 1), drawn_claim(rng, book, depth - 1)
    return rng.choice([~one, one & other, one | other])
