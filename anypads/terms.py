"""Terms: sums of numbers, sizes, alignments and places of the parts of a book."""

from anypads.errors import BadBound, BadName, NoMachine, NoName, NoPath, NotRecord, TooLarge
from anypads.layout import Layout, align_on, hops_to, packed_on, place_on, size_on
from anypads.parts import Record, need_path
from anypads.scales import BYTE
from anypads.settle import align_at, form_told, multiple, nothing, packed_at, place_at, single, size_at, total
from anypads.views import View
from anypads.words import is_figures, is_name, is_whole

MOST_BYTES = 1000
MOST_UNITS = 1000000


class Term:
    """A term.

    `text` is how it is written. `simple` has a tuple (many, word, name, path) for each simple term, from the left:
    `many` is how many times it counts. A number is so many times the word `number`; what a word does not need is "".
    """

    MOST = 64

    def __init__(self, text, simple):
        self.text = text
        self.simple = simple

    def __add__(self, other):
        if not isinstance(other, Term):
            return NotImplemented
        return Term(f"{self.text} + {other.text}", self.simple + other.simple)

    def __mul__(self, other):
        return multiple_of(self, other)

    def __rmul__(self, other):
        return multiple_of(self, other)

    def __eq__(self, other):
        return isinstance(other, Term) and self.text == other.text

    def __str__(self):
        return str(self.text)

    def named(self):
        """The ascending tuple of the names in it."""
        found = {name: True for many, word, name, path in self.simple if word != "number"}
        return tuple(sorted([str(name) for name in found]))


def multiple_of(term, n):
    """The term n times, n any value."""
    if not is_whole(n, 1, Term.MOST):
        raise BadBound(n)
    return Term(f"{n}*({term.text})", tuple([(n * many, word, name, path) for many, word, name, path in term.simple]))


def number(n):
    """The term of so many bytes."""
    if not is_whole(n, 0, MOST_BYTES):
        raise BadBound(n)
    return Term(str(n), ((n, "number", "", ""),))


def size(name):
    """The size of the part of a name."""
    return simple_term("size", name)


def align(name):
    """The alignment of the part of a name."""
    return simple_term("align", name)


def packed(name):
    """The packed size of the record of a name."""
    return simple_term("packed", name)


def place(name, path):
    """The place of a path in the part of a name."""
    return path_term("place", name, path)


def end(name, path):
    """The end of a path in the part of a name."""
    return path_term("end", name, path)


def simple_term(word, name):
    """The term of a word and any value as a name."""
    if not is_name(name):
        raise BadName(name)
    return Term(f"{word} {name}", ((1, word, name, ""),))


def path_term(word, name, path):
    """The term of a word and any values as a name and a path."""
    need_steps(name, path)
    return Term(f"{word} {name} {path}", ((1, word, name, path),))


def need_steps(name, path):
    """Raises an error if the one value is no name, or the other one is no path of whatever part."""
    if not is_name(name):
        raise BadName(name)
    if not isinstance(path, str):
        raise NoPath(path, 0)
    for at, step in enumerate(path.split(".")):
        if not is_name(step) and not is_figures(step):
            raise NoPath(path, at)


def units_of(book, term):
    """The units of a term."""
    return units_in(checked_parts(book, term), term)


def value(book, term, machine):
    """The value of a term on a machine."""
    need_machine(book, machine)
    parts = checked_parts(book, term)
    laid = Layout(machine)
    return sum([many * simple_value(laid, met(parts, (word, name, path))) for many, word, name, path in term.simple])


def form_in(book, term, zone):
    """The form of a term in a zone; None if that is not settled."""
    parts = checked_parts(book, term)
    view = View(zone)
    found = (nothing(view), None)
    for many, word, name, path in term.simple:
        found = total(found, multiple(many, simple_form(view, met(parts, (word, name, path)))))
    return form_told(zone, found)


def need_machine(book, machine):
    """Raises NoMachine(None) if a machine has not the kinds of the book, in their order."""
    if machine.kinds != tuple(book.kinds):
        raise NoMachine(None)


def parts_of(book, names):
    """A dict from those of the names that the book has to their resolved parts."""
    return {name: book.resolved(name) for name in names if name in book}


def checked_parts(book, term):
    """The parts of the names in a term; raises all that a term in a book raises."""
    parts = parts_of(book, term.named())
    need_term(parts, term)
    need_units(parts, [term])
    return parts


def named_part(parts, name):
    """The part of a name."""
    if name not in parts:
        raise NoName(name)
    return parts[name]


def named_record(parts, name):
    """The part of a name, which must be a record."""
    part = named_part(parts, name)
    if not isinstance(part, Record):
        raise NotRecord(name)
    return part


def need_term(parts, term):
    """Raises an error for the first simple term that these parts do not have."""
    for many, word, name, path in term.simple:
        if word == "packed":
            named_record(parts, name)
        elif word != "number":
            part = named_part(parts, name)
            if word in ("place", "end"):
                need_path(part, path)


def need_units(parts, terms):
    """Raises TooLarge if one of the terms, which these parts have, has too many units."""
    for term in terms:
        if units_in(parts, term) > MOST_UNITS:
            raise TooLarge("units", MOST_UNITS)


# The functions below take terms that the parts have.


def units_in(parts, term):
    """The units of a term."""
    return sum([many * simple_units(parts, word, name) for many, word, name, path in term.simple])


def simple_units(parts, word, name):
    """The units of a simple term."""
    return 1 if word in ("number", "align") else parts[name].weight


def met(parts, simple):
    """What a simple term (word, name, path) stands for: (word, part, hops); the part is that at the path."""
    word, name, path = simple
    if word == "number":
        return word, None, []
    if word in ("place", "end"):
        return word, parts[name][path], hops_to(parts[name], path)
    return word, parts[name], []


def simple_value(laid, told):
    """The value of what a simple term stands for on a machine of the part's kinds."""
    word, part, hops = told
    if word == "number":
        return 1
    if word == "align":
        return align_on(laid, part)
    if word == "packed":
        return packed_on(laid, part)
    return place_on(laid, hops) + (0 if word == "place" else size_on(laid, part))


def simple_form(view, told):
    """The pair (form, question) of what a simple term stands for in a zone of the part's kinds."""
    word, part, hops = told
    if word == "number":
        return single(view, BYTE, 1), None
    if word == "align":
        scale, question = align_at(view, part)
        return (None, question) if scale is None else (single(view, view.order[scale], 1), None)
    if word == "packed":
        return packed_at(view, part)
    if word == "size":
        return size_at(view, part)
    place = place_at(view, hops)
    return place if word == "place" else total(place, size_at(view, part))
