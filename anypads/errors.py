"""The errors of the package: each keeps what it is made of under the names of its fields."""


class PadError(ValueError):
    """The base of all errors."""

    def __init__(self, *told):
        self.told = told


class BadName(PadError):
    """What was passed as a name is none."""

    def __init__(self, name):
        PadError.__init__(self, name)
        self.name = name


class BadTimes(PadError):
    """What was passed as a number of times or of parts is none."""

    def __init__(self, value):
        PadError.__init__(self, value)
        self.value = value


class BadParts(PadError):
    """What was passed at this index is not what belongs there; None for the whole."""

    def __init__(self, at):
        PadError.__init__(self, at)
        self.at = at


class NoPath(PadError):
    """No path leads there; the step at this index leads nowhere."""

    def __init__(self, path, at):
        PadError.__init__(self, path, at)
        self.path = path
        self.at = at


class NoName(PadError):
    """The book has no such name."""

    def __init__(self, name):
        PadError.__init__(self, name)
        self.name = name


class Taken(PadError):
    """The name is already that of a kind."""

    def __init__(self, name):
        PadError.__init__(self, name)
        self.name = name


class Ring(PadError):
    """Parts would use one another in a ring."""

    def __init__(self, way):
        PadError.__init__(self, way)
        self.way = way


class InUse(PadError):
    """What is to be dropped is used by the part of this name."""

    def __init__(self, name):
        PadError.__init__(self, name)
        self.name = name


class Unresolved(PadError):
    """A use stands where a part is needed."""

    def __init__(self, name):
        PadError.__init__(self, name)
        self.name = name


class NoMachine(PadError):
    """No machine has this exponent; None for what tells no exponents at all."""

    def __init__(self, scale):
        PadError.__init__(self, scale)
        self.scale = scale


class BadValue(PadError):
    """The value at this path is not one of the part there."""

    def __init__(self, path):
        PadError.__init__(self, path)
        self.path = path


class TooLarge(PadError):
    """There is more of something than there may be."""

    def __init__(self, what, most):
        PadError.__init__(self, what, most)
        self.what = what
        self.most = most


class NoScale(PadError):
    """There is no such scale; None for kinds that are not the same."""

    def __init__(self, scale):
        PadError.__init__(self, scale)
        self.scale = scale


class BadBound(PadError):
    """The number is none, or not within its bounds."""

    def __init__(self, value):
        PadError.__init__(self, value)
        self.value = value


class NoTerm(PadError):
    """What was passed at this index is no term."""

    def __init__(self, at):
        PadError.__init__(self, at)
        self.at = at


class NoClaim(PadError):
    """What was passed at this index is no claim."""

    def __init__(self, at):
        PadError.__init__(self, at)
        self.at = at


class NotRecord(PadError):
    """The part of this name is no record."""

    def __init__(self, name):
        PadError.__init__(self, name)
        self.name = name


class Barred(PadError):
    """No machine is left."""

    def __init__(self):
        PadError.__init__(self)


class Endless(PadError):
    """There is no greatest exponent of this scale."""

    def __init__(self, scale):
        PadError.__init__(self, scale)
        self.scale = scale


class NoOffer(PadError):
    """What was offered at this index is no claim."""

    def __init__(self, at):
        PadError.__init__(self, at)
        self.at = at


class NoOrder(PadError):
    """What was passed is no order of the fields, from this index on."""

    def __init__(self, at):
        PadError.__init__(self, at)
        self.at = at


class BadText(PadError):
    """The text cannot be read from this index on."""

    def __init__(self, at):
        PadError.__init__(self, at)
        self.at = at


class NoLine(PadError):
    """What was passed is no line, or there is no book yet."""

    def __init__(self):
        PadError.__init__(self)
