"""A desk: books made, edited and asked by lines."""

from anypads.books import Book
from anypads.claims import yes
from anypads.errors import NoLine, PadError
from anypads.orders import fewest_orders
from anypads.parts import MOST_TIMES, Kind
from anypads.reading import reader_of, sign, take, take_end, taken_name, taken_number, taken_one
from anypads.regions import region, span, sure
from anypads.scales import MOST_KINDS
from anypads.terms import value
from anypads.texts import claim_at, machine_at, part_at, term_at, tree_text
from anypads.verdicts import decide

FIRST_WORDS = ("kinds", "undo")
BARE_WORDS = ("names", "facts", "least", "undo")
NAME_WORDS = ("drop", "show", "orders")
CLAIM_WORDS = ("fact", "ask", "why")
TERM_WORDS = ("span", "sure")


class Desk:
    """A desk.

    `held` is its book, None at first, and `past` the books that undo brings back, the last one last. None of these
    books is changed: an edit is made in a twin.
    """

    def __init__(self):
        self.held = None
        self.past = ()

    def __len__(self):
        return len(self.past)

    def __call__(self, line):
        return self.say(line)

    def say(self, line):
        """Does a line, and returns its answer."""
        if not isinstance(line, str):
            raise NoLine()
        word, told = read_line(line, self.held)
        if word == "undo":
            return take_back(self)
        if word in ("kinds", "set", "drop", "fact"):
            put_down(self, edited(self.held, word, told))
            return "ok"
        return answer(self.held, word, told)

    def run(self, *lines):
        """Does lines, and returns the list of the answers; if one raises, none of them is done."""
        held, past = self.held, self.past
        answers = []
        try:
            for line in lines:
                answers.append(self.say(line))
        except PadError:
            self.held = held
            self.past = past
            raise
        return answers

    def book(self):
        """A twin of the book."""
        if self.held is None:
            raise NoLine()
        return self.held.twin()


def take_back(desk):
    """Brings the last book back that was there ahead of the last edit."""
    if not desk.past:
        return "nothing"
    desk.held = desk.past[-1]
    desk.past = desk.past[:-1]
    return "ok"


def put_down(desk, fresh):
    """Puts another book on the desk."""
    desk.past = desk.past + (desk.held,)
    desk.held = fresh


def edited(held, word, told):
    """The book of which a line makes this one."""
    if word == "kinds":
        return Book(*told)
    fresh = held.twin()
    if word == "set":
        name, part = told
        fresh[name] = part
    elif word == "drop":
        fresh.drop(told)
    else:
        fresh.set_facts(fresh.facts + (told,))
    return fresh


def answer(held, word, told):
    """The answer to a line that changes nothing."""
    if word in CLAIM_WORDS:
        verdict = decide(held, told)
        return repr(verdict) if word == "ask" else tree_text(verdict.tree)
    if word == "span":
        found = span(held, told)
        high = "endless" if found.high is None else str(found.high)
        return f"{found.low} to {high}"
    if word == "sure":
        worth = sure(held, told)
        return "-" if worth is None else str(worth)
    if word == "at":
        machine, term = told
        return str(value(held, term, machine))
    return looked_up(held, word, told)


def looked_up(held, word, told):
    """The answer to a line that asks what stands in the book, for its least machine, or for orders."""
    if word == "show":
        return str(held[told])
    if word == "names":
        return " ".join(held.names) if held.names else "-"
    if word == "facts":
        return " ; ".join([str(fact) for fact in held.facts]) if held.facts else "-"
    if word == "least":
        return str(region(held, yes()).least())
    orders = fewest_orders(held, told)[0]
    names = [name for name, part in held.resolved(told).fields]
    return " / ".join([",".join([names[at] for at in order]) for order in orders])


def read_line(line, held):
    """The pair of the word of a line and what is told behind it; without a book only few lines are read."""
    reader = reader_of(line)
    words = BARE_WORDS + NAME_WORDS + CLAIM_WORDS + TERM_WORDS + ("kinds", "set", "at")
    word = taken_one(reader, FIRST_WORDS if held is None else words)
    told = None
    if word not in BARE_WORDS:
        take(reader, " ")
        told = told_at(reader, word, held)
    take_end(reader)
    return word, told


def told_at(reader, word, held):
    """Reads what is told behind the word of a line."""
    if word == "kinds":
        return kinds_at(reader)
    if word in NAME_WORDS:
        return taken_name(reader)
    if word in CLAIM_WORDS:
        return claim_at(reader, 0)
    if word in TERM_WORDS:
        return term_at(reader, 0)
    if word == "set":
        name = taken_name(reader)
        take(reader, " ")
        return name, part_at(reader, held.kinds, 0)
    machine = machine_at(reader, held.kinds)
    take(reader, " : ")
    return machine, term_at(reader, 0)


def kinds_at(reader):
    """Reads kinds: names and times."""
    kinds = []
    while not kinds or len(kinds) < MOST_KINDS and sign(reader) == " ":
        if kinds:
            take(reader, " ")
        name = taken_name(reader, [kind.name for kind in kinds])
        take(reader, " ")
        kinds.append(Kind(name, taken_number(reader, 1, MOST_TIMES)))
    return kinds
