"""Books: named conditions and programs with undo, redo and kept tables."""

from ownfill.conditions import MOST_NAME, format_condition, parse_condition
from ownfill.errors import (CircularName, DuplicateName, InvalidCommand, InvalidName, LimitReached, NameInUse,
                            NothingLeft, UnknownName, WrongKind)
from ownfill.naming import exchanged, names_asked, names_called, names_used
from ownfill.programs import format_program, parse_program
from ownfill.running import Run
from ownfill.tables import compiled
from ownfill.turns import LOWERCASE, check_letters
from ownfill.values import MOST_VALUES

MOST_NAMES = 12
# How many elements the commands have.
COMMANDS = {"condition": 3, "program": 3, "drop": 2, "rename": 3}


def check_commands(commands):
    """Raises InvalidCommand of the first command with another form."""
    for index, command in enumerate(commands):
        if len(command) == 0 or COMMANDS.get(command[0], 0) != len(command):
            raise InvalidCommand(index)


def check_name(name):
    """Raises InvalidName unless a string is a name."""
    strange = [sign for sign in name if sign not in LOWERCASE]
    if len(strange) > 0 or not 1 <= len(name) <= MOST_NAME:
        raise InvalidName(name)


def check_known(entries, name):
    """Raises UnknownName unless a book has the name."""
    if name not in entries:
        raise UnknownName(name)


def direct_users(entries, name):
    """The ascending list of the names that use a name directly.

    The entries of a book have for each name the pair of its kind and its condition or program.
    """
    return sorted([user for user in entries if name in names_used(entries[user][0], entries[user][1])])


def uses(entries, starts, name):
    """Whether a name is one of some names or used by one of them, directly or not."""
    seen = {start: True for start in starts}
    waiting = list(starts)
    while waiting:
        kind, meant = entries[waiting.pop()]
        for used in names_used(kind, meant):
            if used not in seen:
                seen[used] = True
                waiting.append(used)
    return name in seen


def check_used(entries, name, kind, meant):
    """Raises an error for the first name that cannot stand in the condition or program of a name."""
    called, asked = names_called(kind, meant), names_asked(kind, meant)
    used = names_used(kind, meant)
    for other in used:
        if other == name:
            raise CircularName(name)
        check_known(entries, other)
        wrong = asked if entries[other][0] == "program" else called
        if other in wrong:
            raise WrongKind(other)
    if uses(entries, used, name):
        raise CircularName(name)


def define(letters, capacity, entries, command):
    """Runs the command that adds a name or changes what it stands for."""
    kind, name, text = command
    check_name(name)
    if name in entries and entries[name][0] != kind:
        raise WrongKind(name)
    if name not in entries and len(entries) >= capacity:
        raise LimitReached(capacity)
    meant = parse_condition(letters, text) if kind == "condition" else parse_program(letters, text)
    check_used(entries, name, kind, meant)
    entries[name] = (kind, meant)


def drop(entries, name):
    """Runs the command that removes a name."""
    check_known(entries, name)
    users = direct_users(entries, name)
    if users:
        raise NameInUse(users[0])
    del entries[name]


def rename(entries, name, other):
    """Runs the command that changes a name, also where it is used."""
    check_known(entries, name)
    check_name(other)
    if other in entries:
        raise DuplicateName(other)
    named, called = {name: ("named", other)}, {name: ("call", other)}
    for user in direct_users(entries, name):
        kind, meant = entries[user]
        entries[user] = (kind, exchanged(kind, meant, named, called))
    entries[other] = entries[name]
    del entries[name]


def run_command(letters, capacity, entries, command):
    """Runs a command that has one of the forms on the entries of a book."""
    if command[0] == "drop":
        drop(entries, command[1])
    elif command[0] == "rename":
        rename(entries, command[1], command[2])
    else:
        define(letters, capacity, entries, command)


def full_meaning(entries, name, known):
    """What a name stands for, without names; known has what is known already, and what is found is put there."""
    if name not in known:
        kind, meant = entries[name]
        replaced = {used: full_meaning(entries, used, known) for used in names_used(kind, meant)}
        known[name] = exchanged(kind, meant, replaced, replaced)
    return known[name]


class Book:
    """Named conditions and programs."""

    def __init__(self, letters, *, capacity=MOST_NAMES):
        check_letters(letters)
        self.alphabet = letters
        self.entries = {}
        self.past = []
        self.ahead = []
        self.kept = {}
        self.many_compiled = 0
        self.most = 0
        self.set_capacity(capacity)

    @property
    def letters(self):
        """The letters of the texts."""
        return self.alphabet

    @property
    def capacity(self):
        """The greatest number of names."""
        return self.most

    @capacity.setter
    def capacity(self, value):
        self.set_capacity(value)

    @property
    def computed(self):
        """How many tables were compiled."""
        return self.many_compiled

    def set_capacity(self, most):
        """Assigns the greatest number of names."""
        if not max(1, len(self.entries)) <= most <= MOST_NAMES:
            raise LimitReached(MOST_NAMES)
        self.most = most

    def apply(self, *commands):
        """Runs commands in order as one step."""
        check_commands(commands)
        entries = dict(self.entries)
        for command in commands:
            run_command(self.alphabet, self.most, entries, command)
        self.past.append(self.entries)
        self.ahead = []
        self.entries = entries

    def undo(self):
        """Takes the last step back."""
        if len(self.past) == 0:
            raise NothingLeft()
        self.ahead.append(self.entries)
        self.entries = self.past.pop()

    def redo(self):
        """Makes the step again that was last taken back."""
        if len(self.ahead) == 0:
            raise NothingLeft()
        self.past.append(self.entries)
        self.entries = self.ahead.pop()

    def history(self):
        """The numbers of steps that can be undone and redone."""
        return (len(self.past), len(self.ahead))

    def names(self, *, kind=None):
        """The ascending list of all names, or of those of a kind."""
        return sorted([name for name in self.entries if kind in (None, self.entries[name][0])])

    def kind_of(self, name):
        """The kind of a name."""
        check_known(self.entries, name)
        return self.entries[name][0]

    def text_of(self, name):
        """The text of the condition or program of a name."""
        check_known(self.entries, name)
        kind, meant = self.entries[name]
        return format_condition(meant) if kind == "condition" else format_program(meant)

    def users(self, name):
        """The ascending list of the names that use a name directly."""
        check_known(self.entries, name)
        return direct_users(self.entries, name)

    def meaning(self, name):
        """The condition or program of a name in which all names are replaced."""
        check_known(self.entries, name)
        return full_meaning(self.entries, name, {})

    def program_of(self, name):
        """The program of a name in which all names are replaced; raises WrongKind for a condition."""
        if self.kind_of(name) != "program":
            raise WrongKind(name)
        return self.meaning(name)

    def table(self, name, *, limit=MOST_VALUES):
        """The table of a program; a kept one if it was compiled for the same program."""
        program = self.program_of(name)
        if name not in self.kept or self.kept[name][0] != program:
            table = compiled(self.alphabet, program, limit=limit)
            self.kept[name] = (program, table)
            self.many_compiled += 1
        return self.kept[name][1]

    def start(self, name, text):
        """A run of a program."""
        return Run(self.alphabet, self.program_of(name), text)

    def twin(self):
        """An independent book with the same names, capacity, steps, kept tables and number of compiled tables."""
        made = Book(self.alphabet, capacity=self.most)
        made.entries = self.entries
        made.past = list(self.past)
        made.ahead = list(self.ahead)
        made.kept = dict(self.kept)
        made.many_compiled = self.many_compiled
        return made

    def __contains__(self, name):
        return name in self.entries

    def __eq__(self, other):
        return isinstance(other, Book) and self.alphabet == other.alphabet and self.entries == other.entries

    def __len__(self):
        return len(self.entries)

    def __repr__(self):
        return f"Book({len(self.entries)} names)"
