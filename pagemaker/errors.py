"""The errors: each straight under one of Python's own, with what it was made of as its fields.

Python itself keeps what an error is made of by place, and shows it; so no base is told of it again.
"""


class BadSource(ValueError):
    """A part of a source isn't so; part is its word."""

    def __init__(self, part):
        self.part = part


class BadRow(ValueError):
    """A row of a text isn't so; row is its number."""

    def __init__(self, row):
        self.row = row


class BadText(ValueError):
    """A template's text isn't so; at is the place."""

    def __init__(self, at):
        self.at = at


class BadPath(ValueError):
    """It is no PATH."""

    def __init__(self, path):
        self.path = path


class BadName(ValueError):
    """It is no NAME."""

    def __init__(self, name):
        self.name = name


class BadTemplate(ValueError):
    """What is to be called by this name is no template."""

    def __init__(self, name):
        self.name = name


class BadNumber(ValueError):
    """It is no such number."""

    def __init__(self, number):
        self.number = number


class BadDeed(ValueError):
    """It is no deed; number is its place in the list."""

    def __init__(self, number):
        self.number = number


class NoLead(KeyError):
    """It isn't told where the path leads."""

    def __init__(self, path):
        self.path = path


class NoName(KeyError):
    """No template is called so."""

    def __init__(self, name):
        self.name = name


class NoRead(KeyError):
    """The fact is read and not among the reads."""

    def __init__(self, key):
        self.key = key


class BadKey(KeyError):
    """It is no key of a fact."""

    def __init__(self, key):
        self.key = key


class NoPath(LookupError):
    """No source stands there."""

    def __init__(self, path):
        self.path = path


class NoPage(LookupError):
    """No page stands there."""

    def __init__(self, path):
        self.path = path


class NoAddress(LookupError):
    """Nothing is made at the address."""

    def __init__(self, address):
        self.address = address


class NoPart(IndexError):
    """The tag has no part of this number."""

    def __init__(self, tag, number):
        self.tag = tag
        self.number = number


class TooMany(OverflowError):
    """There would be more than many."""

    def __init__(self, many):
        self.many = many


class Taken(RuntimeError):
    """A source stands there already."""

    def __init__(self, path):
        self.path = path


class Fault(RuntimeError):
    """Something stands against the template; word and what tell it."""

    def __init__(self, word, what):
        self.word = word
        self.what = what
