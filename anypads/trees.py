"""Trees of questions about the differences of exponents."""

from anypads.errors import BadBound, NoScale
from anypads.scales import is_scale
from anypads.terms import need_machine
from anypads.words import is_whole
from anypads.zones import Zone

LEAF = ("leaf",)


def ask(i, j, c, yes, no):
    """The tree that asks whether the exponent of i less that of j is at most c."""
    if not is_scale(i):
        raise NoScale(i)
    if not is_scale(j) or j == i:
        raise NoScale(j)
    if not is_whole(c, -Zone.MOST, Zone.MOST):
        raise BadBound(c)
    return ("ask", i, j, c, yes, no)


def leaves(book, tree):
    """Yields the zones of the leaves that have a machine, those behind yes ahead of those behind no."""
    need_scales(book, tree)
    rest = [(tree, Zone.of(book.kinds))]
    while rest:
        node, zone = rest.pop()
        if not asks(node):
            yield zone
        else:
            word, i, j, c, yes, no = node
            inside, outside = zone.sides(i, j, c)
            # What is put last is taken first.
            if outside:
                rest.append((no, outside))
            if inside:
                rest.append((yes, inside))


def leaf_of(book, tree, machine):
    """The zone of the leaf to which a machine comes."""
    need_scales(book, tree)
    need_machine(book, machine)
    zone = Zone.of(book.kinds)
    while asks(tree):
        word, i, j, c, yes, no = tree
        inside, outside = zone.sides(i, j, c)
        is_inside = machine[i] - machine[j] <= c
        zone = inside if is_inside else outside
        tree = yes if is_inside else no
    return zone


def size_of(tree):
    """How many questions a tree has."""
    return len([node for node in nodes_of(tree) if asks(node)])


def depth_of(tree):
    """The greatest number of questions on a way to a leaf."""
    depths = []
    for node in nodes_of(tree)[::-1]:
        if asks(node):
            yes = depths.pop()
            no = depths.pop()
            depths.append(max(0, int(yes), int(no)) + 1)
        else:
            depths.append(0)
    return depths[0]


def grafted(tree, other):
    """The tree with another tree in the place of each leaf."""
    return rebuilt(tree, {}, other)


def called(tree, names):
    """The tree with other names of kinds, where the dict has one."""
    return rebuilt(tree, names, LEAF)


def asks(tree):
    """Whether a tree is a question."""
    return tree[0] == "ask"


def nodes_of(tree):
    """The list of a tree and all trees in it, in the order in which they are written."""
    nodes = []
    rest = [tree]
    while rest:
        node = rest.pop()
        nodes.append(node)
        if asks(node):
            rest.extend([node[5], node[4]])
    return nodes


def need_scales(book, tree):
    """Raises NoScale with the first scale in a tree that is none of the book's."""
    zone = Zone.of(book.kinds)
    for node in nodes_of(tree):
        if asks(node):
            for scale in node[1:3]:
                if scale not in zone.order:
                    raise NoScale(scale)


def rebuilt(tree, names, leaf):
    """The tree with other names of kinds, where the dict has one, and a tree in the place of each leaf."""
    done = []
    for node in nodes_of(tree)[::-1]:
        if asks(node):
            yes = done.pop()
            no = done.pop()
            done.append(("ask", renamed(node[1], names), renamed(node[2], names), node[3], yes, no))
        else:
            done.append(leaf)
    return done[0]


def renamed(scale, names):
    """The text of a scale with another name of its kind, if the dict has one."""
    word, space, name = scale.partition(" ")
    return f"{word}{space}{names.get(name, name)}"
