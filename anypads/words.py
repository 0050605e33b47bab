"""What a name is, and what a whole number is."""

LETTERS = "abcdefghijklmnopqrstuvwxyz"
FIGURES = "0123456789"
LONGEST = 8

# The written forms of terms, claims and trees use these words themselves.
BARRED = (
    "byte", "size", "align", "place", "end", "packed",
    "and", "or", "not", "yes", "no", "for", "nogap", "notail", "leaf",
)


def is_name(value):
    """Whether any value is a name of a kind, a part, a field or a member."""
    if not isinstance(value, str) or value in BARRED:
        return False
    return 1 <= len(value) <= LONGEST and all([letter in LETTERS for letter in value])


def is_figures(text):
    """Whether a text is a number in figures, without a zero ahead."""
    if len(text) == 0 or not all([letter in FIGURES for letter in text]):
        return False
    return text == "0" or text[0] != "0"


def is_number(value):
    """Whether any value is a whole number: True and False are none."""
    return isinstance(value, int) and not isinstance(value, bool)


def is_count(value):
    """Whether any value is a whole number from 0 on."""
    return is_number(value) and value >= 0


def is_whole(value, least, most):
    """Whether any value is a whole number from the least to the most."""
    return is_number(value) and least <= value <= most
