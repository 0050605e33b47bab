"""Values of all sorts to pass where any value is accepted, and how to tell what a call raised."""

from anypads.books import Book
from anypads.claims import no_tail, same as same_claim, yes
from anypads.desk import Desk
from anypads.errors import BadName, PadError
from anypads.forms import Form
from anypads.machines import Machine
from anypads.parts import Byte, Kind, Overlay, Record, Row, Use
from anypads.regions import region, span
from anypads.terms import number, size
from anypads.verdicts import decide
from anypads.zones import Zone


def nested(depth):
    value = []
    for _ in range(depth):
        value = [value, {"a": (value,)}] if depth < 5 else [value]
    return value


GREAT = 10 ** 60 - 1
PARTS = [
    Kind("any"),
    Kind("any", 8),
    Byte(),
    Use("any"),
    Row(Byte(), 2),
    Record([("a", Byte())]),
    Overlay([("a", Byte())]),
]
TERMS = [number(1), 2 * size("any") + number(3)]
CLAIMS = [yes(), ~no_tail("any"), same_claim(size("any"), number(1))]
ZONES = [Zone(Kind("any")), Zone(Kind("any")).within("byte", "size any", -1).within("size any", "byte", 0)]
FORMS = [Form({}), Form({"size any": 1})]
BOOK = Book(Kind("any"))
TOLD = [
    BOOK, BOOK.trial(), Desk(), decide(BOOK, yes()), decide(BOOK, CLAIMS[2]), decide(BOOK, yes(), [~yes()]),
    region(BOOK, yes()), region(BOOK, ~yes()), span(BOOK, number(1)), span(BOOK, size("any")),
]
OBJECTS = PARTS + TERMS + CLAIMS + ZONES + FORMS + TOLD + [Machine([Kind("any")], {"any": (3, 1)}), BadName("any")]
TREES = [("leaf",), ("ask", "size any", "byte", 0, ("leaf",), ("leaf",)), ("leaf", 1), ["leaf"], ("ask", "size any", "byte", 0, ("leaf",))]
NUMBERS = [0, 1, 2, 8, -1, 1000, 1001, GREAT, -GREAT]
TEXTS = ["", " ", "a", "Any", "a.b", "0", "00", "byte", "size any", "a" * 2000, "~"]
SHAPES = [
    [], [1], ["a"], [None], (), (1,), ("a", None), ("a", "b", "c"), (("a", 1), 2), {}, {"a": 1},
    {"a": (1, 1)}, {1: "a", None: [], (1, "b"): ()}, nested(4), nested(12), [("a", 1)], [("a", Byte())],
]
ANY = [None, True, False] + NUMBERS + TEXTS + SHAPES + OBJECTS + TREES

FIELDS = {
    "BadName": ("name",),
    "BadTimes": ("value",),
    "BadParts": ("at",),
    "NoPath": ("path", "at"),
    "NoName": ("name",),
    "Taken": ("name",),
    "Ring": ("way",),
    "InUse": ("name",),
    "Unresolved": ("name",),
    "NoMachine": ("scale",),
    "BadValue": ("path",),
    "TooLarge": ("what", "most"),
    "NoScale": ("scale",),
    "BadBound": ("value",),
    "NoTerm": ("at",),
    "NoClaim": ("at",),
    "NotRecord": ("name",),
    "Barred": (),
    "Endless": ("scale",),
    "NoOffer": ("at",),
    "NoOrder": ("at",),
    "BadText": ("at",),
    "NoLine": (),
}


def raised_by(call, *args, **more):
    """The name of the error that a call raises, with its fields behind it; None if it raises none."""
    try:
        call(*args, **more)
    except PadError as error:
        name = type(error).__name__
        return (name,) + tuple(getattr(error, field) for field in FIELDS[name])
    return None


def is_whole(value, least, most):
    return type(value) is int and least <= value <= most


def is_text_of(value, texts):
    """Whether any value is one of these texts."""
    return isinstance(value, str) and value in texts


def same(one, other):
    """Equality that tells True from 1, and looks into lists and dicts."""
    if type(one) is not type(other):
        return False
    if isinstance(one, (list, tuple)):
        return len(one) == len(other) and all(map(same, one, other))
    if isinstance(one, dict):
        return same(list(one.items()), list(other.items()))
    return one == other
