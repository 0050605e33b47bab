"""Which beginnings can be led to a text that is read: points 35 to 37 once more, by trying all ways at once.

A state is what must still come: a tuple of items, the next one first. An item is ("text", letters), ("name", begun,
taken, then), ("number", begun, least, most, then), ("figures", begun, then) or ("way", call): a call without arguments
that returns all the states that may stand in its place. `then`, called with what was read, returns such states, too.
No state is ever made that cannot be led to an end, so a beginning can be led on exactly if a state is left.
"""

BARRED = "byte size align place end packed and or not yes no for nogap notail leaf".split()
LETTERS = "abcdefghijklmnopqrstuvwxyz"


def text(letters):
    return ("text", letters)


def name(taken=(), then=lambda word: [()]):
    return ("name", "", tuple(taken), then)


def number(least, most, then=lambda n: [()]):
    return ("number", "", least, most, then)


def way(call, *told):
    return ("way", lambda: call(*told))


def opened(state):
    """The states, each empty or with a sign to come first, that a state stands for."""
    if not state:
        return [()]
    item, rest = state[0], state[1:]
    if item[0] == "way":
        return [found for ahead in item[1]() for found in opened(ahead + rest)]
    if item[0] == "text":
        return [state] if item[1] else opened(rest)
    ended = []
    if item[0] == "name" and is_name(item[1], item[2]):
        ended = item[3](item[1])
    if item[0] == "number" and item[1] and item[2] <= int(item[1]) <= item[3]:
        ended = item[4](int(item[1]))
    if item[0] == "figures" and item[1]:
        ended = item[2](item[1])
    return [state] + [found for ahead in ended for found in opened(ahead + rest)]


def is_name(word, taken):
    return 1 <= len(word) <= 8 and word not in BARRED and word not in taken


def fed(state, letter):
    """The states behind a sign, of a state that is opened."""
    if not state:
        return []
    item, rest = state[0], state[1:]
    if item[0] == "text":
        return [(text(item[1][1:]),) + rest] if item[1][0] == letter else []
    longer = item[1] + letter
    if item[0] == "name":
        could_be = len(longer) < 8 or is_name(longer, item[2])
        return [(("name", longer) + item[2:],) + rest] if letter in LETTERS and len(longer) <= 8 and could_be else []
    if letter not in "0123456789" or longer != "0" and longer[0] == "0":
        return []
    if item[0] == "number" and not (int(longer) <= item[3] and (int(longer) >= item[2] or int(longer) > 0)):
        return []
    return [(item[:1] + (longer,) + item[2:],) + rest]


def longest(start, value):
    """The length of the longest beginning that can be led to an end, and whether the whole value is such an end."""
    states = opened(start)
    for at, letter in enumerate(value):
        states = [found for state in states for ahead in fed(state, letter) for found in opened(ahead)]
        if not states:
            return at, False
    return len(value), () in states


# What is written.


def part(kinds, around=0):
    ends = [(text("byte"),)] + [(text(kind.name),) for kind in kinds] + [(text("@"), name())]
    if around == 4:
        return ends
    row = (number(1, 64), text("*"), way(part, kinds, around + 1))
    record = (text("{"), way(pairs, kinds, around, (), " ", 8), text("}"))
    overlay = (text("("), way(pairs, kinds, around, (), "|", 4), text(")"))
    return ends + [row, record, overlay]


def pairs(kinds, around, taken, sign, most):
    def then(word):
        rest = (text(":"), way(part, kinds, around + 1))
        more = [rest + (text(sign), way(pairs, kinds, around, taken + (word,), sign, most - 1))] if most > 1 else []
        return [rest] + more

    return [(name(taken, then),)]


def machine(kinds):
    state = ()
    for kind in kinds:
        ahead = (text(", "),) if state else ()
        state += ahead + (text(kind.name + " "), number(0, 1000, lambda s: [(text(" "), number(0, s))]))
    return [state]


def tree(kinds, around=0):
    if around == 100:
        return [(text("leaf"),)]
    scales = ["byte"] + [f"{word} {kind.name}" for kind in kinds for word in ("size", "align")]
    found = [(text("leaf"),)]
    for i in scales:
        for j in scales:
            if i != j:
                for sign, least in (("", 0), ("-", 1)):
                    behind = (text(" ? "), way(tree, kinds, around + 1), text(" : "), way(tree, kinds, around + 1), text("]"))
                    found.append((text(f"[{i} - {j} <= {sign}"), number(least, 2000)) + behind)
    return found


def path():
    step = [(name(),), (("figures", "", lambda word: [()]),)]
    return step + [each + (text("."), way(path)) for each in step]


def simple(around):
    found = [(number(0, 1000),)] + [(text(word + " "), name()) for word in ("size", "align", "packed")]
    found += [(text(word + " "), name(), text(" "), way(path)) for word in ("place", "end")]
    return found + ([(number(1, 64), text("*("), way(term, around + 1), text(")"))] if around < 100 else [])


def term(around=0):
    return [(way(simple, around),), (way(simple, around), text(" + "), way(term, around))]


def claim(around=0):
    found = [(text("yes"),), (text("no"),), (text("nogap "), name(), text(" "), way(path)), (text("notail "), name())]
    found += [(name(), text(" for "), name()), (text("leastorder "), name())]
    found += [(way(term, around), text(f" {sign} "), way(term, around)) for sign in ("<=", "<", "=")]
    if around < 100:
        inner = (text("("), way(claim, around + 1), text(")"))
        found += [(text("not "),) + inner, inner + (text(" and "),) + inner, inner + (text(" or "),) + inner]
    return found


def kinds_line(taken=()):
    def then(word):
        more = [(number(1, 8), text(" "), way(kinds_line, taken + (word,)))] if len(taken) < 2 else []
        return [(text(" "), number(1, 8))] + [(text(" "),) + each for each in more]

    return [(name(taken, then),)]


def line(kinds):
    found = [(text("kinds "), way(kinds_line)), (text("undo"),)]
    if kinds is None:
        return found
    found += [(text(word),) for word in ("names", "facts", "least")] + [(text(word + " "), name()) for word in ("drop", "show", "orders")]
    found += [(text(word + " "), way(claim)) for word in ("fact", "ask", "why")] + [(text(word + " "), way(term)) for word in ("span", "sure")]
    found.append((text("set "), name(), text(" "), way(part, kinds)))
    return found + [(text("at "), way(machine, kinds), text(" : "), way(term))]
