"""Zones, forms and parts that are drawn, always the same ones, and the machines with small exponents in a zone."""

from anypads.forms import Form
from anypads.machines import Machine
from anypads.parts import Byte, Kind, Overlay, Record, Row
from anypads.zones import Zone

KINDS = [Kind("a"), Kind("b", 2), Kind("c", 3)]


def drawn_zone(rng, kinds, most=3):
    """A zone that is not empty."""
    while True:
        zone = Zone.of(kinds)
        for _ in range(rng.randint(0, 5)):
            i, j = rng.sample(zone.order, 2)
            zone = zone.within(i, j, rng.randint(-most, most))
        if zone:
            return zone


def exact_zone(rng, kinds, most, least_apart):
    """A zone in which each two neighbours differ by an exact number, or by `least_apart` or more."""
    numbers = {"byte": 0}
    for kind in kinds:
        numbers[f"size {kind.name}"] = rng.randint(0, most)
        numbers[f"align {kind.name}"] = rng.randint(0, numbers[f"size {kind.name}"])
    names = sorted(numbers, key=lambda name: numbers[name])
    zone = Zone.of(kinds)
    for low, high in zip(names, names[1:]):
        apart = numbers[high] - numbers[low]
        if apart and rng.random() < 0.5:
            zone = zone.within(low, high, -least_apart)
        else:
            zone = zone.within(low, high, -apart).within(high, low, apart)
    return zone


def drawn_form(rng, zone, most=12):
    scales = rng.sample(zone.order, rng.randint(0, len(zone.order)))
    return Form({scale: rng.choice([0, 1, 2, 3, 4, 8, rng.randint(0, most)]) for scale in scales})


def drawn_part(rng, kinds, depth, least=0):
    if depth == 0:
        return rng.choice([Byte()] + list(kinds) * 2)
    shape = rng.randint(least, 5)
    if shape == 0:
        return drawn_part(rng, kinds, 0)
    inner = [drawn_part(rng, kinds, depth - 1) for _ in range(rng.randint(1, 4))]
    pairs = list(zip("wxyz", inner))
    if shape == 1:
        return Row(inner[0], rng.randint(1, 5))
    return Overlay(pairs) if shape == 2 else Record(pairs)


def machines_in(zone, most):
    """The machines of a zone with exponents up to a number."""
    for point in zone.walk(most):
        numbers = list(point.values())
        names = [kind.name for kind in zone.kinds]
        yield Machine(zone.kinds, dict(zip(names, zip(numbers[0::2], numbers[1::2]))))


def every_path(part):
    """All paths of a part, those through elements too."""
    if isinstance(part, Row):
        steps = [(str(at), part.part) for at in range(part.n)]
    else:
        steps = getattr(part, "fields", getattr(part, "members", ()))
    for step, inner in steps:
        yield step
        for path in every_path(inner):
            yield f"{step}.{path}"
