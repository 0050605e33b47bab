"""Reading texts from their beginning, sign by sign.

All functions take a Reader and move it behind what they read. They raise BadText at the first sign with which no text
that is read goes on, or at the end of the text if more must follow. So whatever they have taken can be led to an end.
"""

from anypads.errors import BadText
from anypads.words import FIGURES, LETTERS, LONGEST, is_name


class Reader:
    """A text, and how many of its signs have been read."""

    def __init__(self, text):
        self.text = text
        self.at = 0


def reader_of(text):
    """A reader of any value; raises BadText(0) if it is no text."""
    if not isinstance(text, str):
        raise BadText(0)
    return Reader(text)


def sign(reader):
    """The next sign, empty at the end."""
    return reader.text[reader.at:reader.at + 1]


def fail(reader):
    """Raises BadText at the next sign."""
    raise BadText(reader.at)


def take(reader, text):
    """Reads just this text."""
    for letter in text:
        if sign(reader) != letter:
            fail(reader)
        reader.at = reader.at + 1


def take_end(reader):
    """Reads the end of the whole text."""
    if sign(reader) != "":
        fail(reader)


def taken_one(reader, texts):
    """Reads one of these texts, the longest one that is there, and returns it.

    Nothing that may follow a text leads on to a longer one of them.
    """
    begun = ""
    while any([text.startswith(begun + sign(reader)) for text in texts]) and sign(reader) != "":
        begun = begun + sign(reader)
        reader.at = reader.at + 1
    if begun not in texts:
        fail(reader)
    return begun


def taken_number(reader, least, most):
    """Reads a number from the least one, 0 or 1, to the most, without a zero ahead, and returns it."""
    if sign(reader) == "0" and least == 0:
        take(reader, "0")
        return 0
    number = 0
    while is_figure(sign(reader)) and 1 <= 10 * number + int(sign(reader)) <= most:
        number = 10 * number + int(sign(reader))
        reader.at = reader.at + 1
    if number == 0:
        fail(reader)
    return number


def is_figure(letter):
    """Whether a sign, or none, is a figure."""
    return letter != "" and letter in FIGURES


def is_letter(letter):
    """Whether a sign, or none, is a letter."""
    return letter != "" and letter in LETTERS


def taken_letters(reader, longer=""):
    """Reads letters, as many as a name may have or as the longer word has, and returns them.

    Each name or the longer word may still come of letters that are no such word themselves.
    """
    begun = ""
    while is_letter(sign(reader)) and (len(begun) < LONGEST or longer.startswith(begun + sign(reader))):
        begun = begun + sign(reader)
        reader.at = reader.at + 1
    return begun


def taken_name(reader, earlier=()):
    """Reads a name that is none of the earlier ones, and returns it."""
    first = reader.at
    name = taken_letters(reader)
    if name in earlier and len(name) == LONGEST:
        # A shorter one could go on.
        raise BadText(first + LONGEST - 1)
    if not is_name(name) or name in earlier:
        fail(reader)
    return name


def taken_path(reader):
    """Reads a path of whatever part, and returns it."""
    first = reader.at
    take_step(reader)
    while sign(reader) == ".":
        take(reader, ".")
        take_step(reader)
    return reader.text[first:reader.at]


def take_step(reader):
    """Reads a step of a path: a name, or figures without a zero ahead."""
    if sign(reader) == "0":
        take(reader, "0")
    elif is_figure(sign(reader)):
        while is_figure(sign(reader)):
            take(reader, sign(reader))
    else:
        taken_name(reader)


def taken_exponents(reader, kinds, most):
    """Reads the exponents of a machine of these kinds, and returns a dict from names to pairs."""
    found = {}
    for kind in kinds:
        if found:
            take(reader, ", ")
        take(reader, f"{kind.name} ")
        s = taken_number(reader, 0, most)
        take(reader, " ")
        found[kind.name] = (s, taken_number(reader, 0, s))
    return found
