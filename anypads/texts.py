"""Reading parts, machines, trees, terms and claims from their texts, and writing trees."""

from anypads.claims import at_most, least_order, less, no, no_gap, no_tail, same, stands_in, yes
from anypads.machines import Machine
from anypads.parts import Byte, Overlay, Part, Record, Row, Use
from anypads.reading import fail, is_figure, is_letter, reader_of, sign, take, take_end, taken_letters, taken_name
from anypads.reading import taken_exponents, taken_number, taken_one, taken_path
from anypads.scales import BYTE, scales_of
from anypads.terms import MOST_BYTES, Term, align, end, number, packed, place, size
from anypads.trees import LEAF, asks, nodes_of
from anypads.words import is_name
from anypads.zones import Zone

# Brackets of claims and terms, counted together, and questions of trees are nested at most so deep.
DEEPEST = 100
LONG_WORD = "leastorder"
TERM_WORDS = ("size", "align", "packed", "place", "end")


def read_part(text, kinds):
    """The part that is written so."""
    reader = reader_of(text)
    part = part_at(reader, kinds, 0)
    take_end(reader)
    return part


def read_machine(text, kinds):
    """The machine that is written so."""
    return Machine.read(text, kinds)


def read_tree(text, kinds):
    """The tree that is written so."""
    reader = reader_of(text)
    tree = tree_at(reader, (BYTE,) + scales_of(kinds), 0)
    take_end(reader)
    return tree


def read_term(text):
    """The term that is written so."""
    reader = reader_of(text)
    term = term_at(reader, 0)
    take_end(reader)
    return term


def read_claim(text):
    """The claim that is written so."""
    reader = reader_of(text)
    claim = claim_at(reader, 0)
    take_end(reader)
    return claim


def tree_text(tree):
    """The text of a tree."""
    done = []
    for node in nodes_of(tree)[::-1]:
        if asks(node):
            yes_text = done.pop()
            no_text = done.pop()
            done.append(f"[{node[1]} - {node[2]} <= {node[3]} ? {yes_text} : {no_text}]")
        else:
            done.append("leaf")
    return done[0]


# The functions below take a reader and move it behind what they read, as those of anypads.reading.


def part_at(reader, kinds, around):
    """Reads a part with so many groups around it."""
    first = sign(reader)
    if first == "@":
        take(reader, "@")
        return Use(taken_name(reader))
    if around < Part.DEPTH and first == "{":
        return Record(pairs_at(reader, kinds, around, "{ }", Record.MOST))
    if around < Part.DEPTH and first == "(":
        return Overlay(pairs_at(reader, kinds, around, "(|)", Overlay.MOST))
    if around < Part.DEPTH and is_figure(first):
        n = taken_number(reader, 1, Row.MOST)
        take(reader, "*")
        return Row(part_at(reader, kinds, around + 1), n)
    name = taken_one(reader, [BYTE] + [kind.name for kind in kinds])
    return Byte() if name == BYTE else [kind for kind in kinds if kind.name == name][0]


def pairs_at(reader, kinds, around, signs, most):
    """Reads fields or members between the first and the last of three signs, with the middle one between them."""
    take(reader, signs[0])
    pairs = []
    while not pairs or len(pairs) < most and sign(reader) == signs[1]:
        if pairs:
            take(reader, signs[1])
        name = taken_name(reader, [earlier for earlier, part in pairs])
        take(reader, ":")
        pairs.append((name, part_at(reader, kinds, around + 1)))
    take(reader, signs[2])
    return pairs


def machine_at(reader, kinds):
    """Reads a machine."""
    return Machine(kinds, taken_exponents(reader, kinds, Machine.MOST))


def tree_at(reader, names, around):
    """Reads a tree with so many questions around it; `names` are byte and the scales."""
    if around == DEEPEST or sign(reader) != "[":
        take(reader, "leaf")
        return LEAF
    take(reader, "[")
    i = taken_one(reader, names)
    take(reader, " - ")
    j = taken_one(reader, [name for name in names if name != i])
    take(reader, " <= ")
    c = bound_at(reader)
    take(reader, " ? ")
    yes_tree = tree_at(reader, names, around + 1)
    take(reader, " : ")
    no_tree = tree_at(reader, names, around + 1)
    take(reader, "]")
    return ("ask", i, j, c, yes_tree, no_tree)


def bound_at(reader):
    """Reads the number of a question."""
    if sign(reader) == "-":
        take(reader, "-")
        return -taken_number(reader, 1, Zone.MOST)
    return taken_number(reader, 0, Zone.MOST)


def term_at(reader, around):
    """Reads a term with so many brackets around it, behind which no sign of a comparison comes."""
    term = simple_at(reader, around)
    while sign(reader) == " ":
        take(reader, " + ")
        term = term + simple_at(reader, around)
    return term


def simple_at(reader, around):
    """Reads a simple term or a multiple."""
    if is_figure(sign(reader)):
        n = taken_number(reader, 0, MOST_BYTES)
        if sign(reader) != "*" or around == DEEPEST or not 1 <= n <= Term.MOST:
            return number(n)
        take(reader, "*(")
        term = term_at(reader, around + 1)
        take(reader, ")")
        return n * term
    return worded_at(reader, taken_one(reader, TERM_WORDS))


def worded_at(reader, word):
    """Reads what stands behind the word of a simple term."""
    take(reader, " ")
    name = taken_name(reader)
    if word == "size":
        return size(name)
    if word == "align":
        return align(name)
    if word == "packed":
        return packed(name)
    take(reader, " ")
    path = taken_path(reader)
    return place(name, path) if word == "place" else end(name, path)


def claim_at(reader, around):
    """Reads a claim with so many brackets around it."""
    if sign(reader) == "(" and around < DEEPEST:
        one = bracketed_at(reader, around)
        take(reader, " ")
        word = taken_one(reader, ["and", "or"])
        take(reader, " ")
        other = bracketed_at(reader, around)
        return one & other if word == "and" else one | other
    if not is_letter(sign(reader)):
        return comparison_at(reader, around, simple_at(reader, around))
    word = taken_letters(reader, LONG_WORD)
    if word in TERM_WORDS:
        return comparison_at(reader, around, worded_at(reader, word))
    if word in ("yes", "no"):
        return yes() if word == "yes" else no()
    if word == "not" and around < DEEPEST:
        take(reader, " ")
        return ~bracketed_at(reader, around)
    return told_at(reader, word)


def bracketed_at(reader, around):
    """Reads a claim in brackets."""
    take(reader, "(")
    claim = claim_at(reader, around + 1)
    take(reader, ")")
    return claim


def told_at(reader, word):
    """Reads what stands behind the first word of a claim that the book tells."""
    if word == "nogap":
        take(reader, " ")
        name = taken_name(reader)
        take(reader, " ")
        return no_gap(name, taken_path(reader))
    if word in ("notail", LONG_WORD):
        take(reader, " ")
        name = taken_name(reader)
        return no_tail(name) if word == "notail" else least_order(name)
    if not is_name(word):
        fail(reader)
    take(reader, " for ")
    return stands_in(word, taken_name(reader))


def comparison_at(reader, around, term):
    """Reads a comparison whose one term begins with a term that has been read."""
    take(reader, " ")
    while sign(reader) == "+":
        take(reader, "+ ")
        term = term + simple_at(reader, around)
        take(reader, " ")
    word = taken_one(reader, ["<=", "<", "="])
    take(reader, " ")
    other = term_at(reader, around)
    if word == "<=":
        return at_most(term, other)
    return less(term, other) if word == "<" else same(term, other)
