"""The errors of the package [20].

Each one keeps the very objects with which it is made. No text of its own is
handed on to ValueError: what Python keeps of an error are then the arguments
with which it was made, and a copy can be made of them.
"""


class BowError(ValueError):
    """Stands above all errors of the package; it is raised nowhere itself."""


class Wrong(BowError):
    """The argument at this place, counted from 0, is not as described."""

    def __init__(self, place):
        self.place = place


class NoBow(BowError):
    """There is no bow with this index."""

    def __init__(self, index):
        self.index = index


class NoWay(BowError):
    """The kind lacks this way."""

    def __init__(self, word):
        self.word = word


class NotTight(BowError):
    """The kind is not tight."""

    def __init__(self):
        BowError.__init__(self)


class Unlike(BowError):
    """The two rows have unlike numbers of bows."""

    def __init__(self):
        BowError.__init__(self)


class BadDigit(BowError):
    """The digit with this index is none."""

    def __init__(self, at):
        self.at = at


class NoNumber(BowError):
    """No row over the word has this number."""

    def __init__(self, number):
        self.number = number


class BadGoing(BowError):
    """The bow with this index in the order of the ends is not open then."""

    def __init__(self, at):
        self.at = at


class Nothing(BowError):
    """There is no edit to undo, or none to do again."""

    def __init__(self):
        BowError.__init__(self)


class BadEdit(BowError):
    """This is no edit."""

    def __init__(self):
        BowError.__init__(self)


class NoText(BowError):
    """This is no text of what was to be read: the line tells why."""

    def __init__(self, line):
        self.line = line


class NoCommand(BowError):
    """This is no command."""

    def __init__(self):
        BowError.__init__(self)
