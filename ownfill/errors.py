"""The errors of the package; each one has its class name as the attribute `code`."""


class FillError(ValueError):
    """The base class of the errors about values that cannot be taken."""

    def __init__(self):
        self.code = "FillError"


class InvalidLetters(FillError):
    """The letters are not 2 to 4 different lowercase letters."""

    def __init__(self):
        self.code = "InvalidLetters"


class UnknownLetter(FillError):
    """A text has a sign at this position that does not belong to the letters."""

    def __init__(self, position):
        self.code = "UnknownLetter"
        self.position = position


class LettersDiffer(FillError):
    """Two objects that work together have different letters."""

    def __init__(self):
        self.code = "LettersDiffer"


class ParseError(FillError):
    """A string cannot be read; at this position stands what cannot stand there."""

    def __init__(self, position):
        self.code = "ParseError"
        self.position = position


class InvalidText(FillError):
    """A string is not the text of a condition or a program."""

    def __init__(self):
        self.code = "InvalidText"


class InvalidMachine(FillError):
    """A room of a machine has a wrong row or no answer."""

    def __init__(self, room):
        self.code = "InvalidMachine"
        self.room = room


class InvalidGame(FillError):
    """The rule with this index has no such hand or no fills."""

    def __init__(self, index):
        self.code = "InvalidGame"
        self.index = index


class TooLong(FillError):
    """A text or a template would be longer than the limit."""

    def __init__(self, limit):
        self.code = "TooLong"
        self.limit = limit


class TooMany(FillError):
    """There are more values than the limit."""

    def __init__(self, limit):
        self.code = "TooMany"
        self.limit = limit


class NoTemplate(FillError):
    """No template gives the answer."""

    def __init__(self):
        self.code = "NoTemplate"


class InvalidName(FillError):
    """A string is not a name."""

    def __init__(self, name):
        self.code = "InvalidName"
        self.name = name


class WrongKind(FillError):
    """A name stands for a condition where a program is needed, or the other way round."""

    def __init__(self, name):
        self.code = "WrongKind"
        self.name = name


class CircularName(FillError):
    """A name would use itself, directly or not."""

    def __init__(self, name):
        self.code = "CircularName"
        self.name = name


class NameInUse(FillError):
    """A name is still used by another one."""

    def __init__(self, name):
        self.code = "NameInUse"
        self.name = name


class DuplicateName(FillError):
    """A name exists already."""

    def __init__(self, name):
        self.code = "DuplicateName"
        self.name = name


class LimitReached(FillError):
    """A book has no room for more names, or a capacity is out of its bounds."""

    def __init__(self, limit):
        self.code = "LimitReached"
        self.limit = limit


class InvalidCommand(FillError):
    """The command with this index has another form."""

    def __init__(self, index):
        self.code = "InvalidCommand"
        self.index = index


class Missing(LookupError):
    """The base class of the errors about something that is not there."""

    def __init__(self):
        self.code = "Missing"


class UnknownName(Missing):
    """A name does not stand for anything."""

    def __init__(self, name):
        self.code = "UnknownName"
        self.name = name


class NothingLeft(Missing):
    """There is nothing left to do, to take back or to do again."""

    def __init__(self):
        self.code = "NothingLeft"
