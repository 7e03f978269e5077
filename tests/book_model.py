"""A plain model of a book: it keeps the texts, and finds and changes names in them by their words."""

import re

from ownfill.conditions import parse_condition
from ownfill.programs import parse_program

USES = re.compile(r"\b(named|call) ([a-z]+)")
GOOD = {
    "condition": ["match(a*)", "length(1,3)", "same({ab},{ba})", "not less(a{},{}a)", "named {0}",
                  "(named {0} or named {1})", "not (match(b) and named {0})",
                  "(named {1} and (named {0} or named {1}))"],
    "program": ["skip", "fill {ab}{}a", "fail no", "call {0}", "call {0}; call {1}", "while named {0} [fill {ba}]",
                "if named {1} [call {0}] [skip; fill b{}]", "if (named {0} and length(0,2)) [call {2}] [call {1}]",
                "while not length(0,3) [fill {}b]", "fill a{}; while (match(b.*) or named {2}) [call {1}; fill {ba}]"],
}
BAD = ["", "skip skip", "match(", "fill", "named", "call X", "length(3,2)", "while match(a) []", "(named a)", "fill c"]
KINDS = ("condition", "program")


class Refused(Exception):
    """A command of the model raises an error: its class and its attribute."""


def uses_of(text):
    """The pairs of a word (named or call) and a name, from left to right."""
    return USES.findall(text)


def is_name(name):
    return re.fullmatch("[a-z]{1,8}", name) is not None


def plain(text):
    """The text as it is returned: the blank that exchanges nothing is written {}."""
    return text.replace("{ab}", "{}")


class ModelBook:
    def __init__(self, capacity=12):
        self.names = {}
        self.capacity = capacity
        self.past, self.ahead = [], []
        self.kept, self.computed = {}, 0

    def copy(self):
        made = ModelBook(self.capacity)
        made.names = dict(self.names)
        made.past, made.ahead = list(self.past), list(self.ahead)
        made.kept, made.computed = dict(self.kept), self.computed
        return made

    def users(self, name, names=None):
        names = self.names if names is None else names
        return sorted(user for user, (_, text) in names.items() if name in [used for _, used in uses_of(text)])

    def below(self, names, name):
        """All names that a name uses, directly or not."""
        found = set()
        for _, used in uses_of(names[name][1]):
            found |= {used} | self.below(names, used)
        return found

    def apply(self, commands):
        sizes = {"condition": 3, "program": 3, "drop": 2, "rename": 3}
        for index, command in enumerate(commands):
            if not command or sizes.get(command[0]) != len(command):
                raise Refused("InvalidCommand", index)
        names = dict(self.names)
        for kind, *rest in commands:
            if kind == "drop":
                self.drop(names, *rest)
            elif kind == "rename":
                self.rename(names, *rest)
            else:
                self.define(names, kind, *rest)
        self.past.append(self.names)
        self.names, self.ahead = names, []

    def define(self, names, kind, name, text):
        if not is_name(name):
            raise Refused("InvalidName", name)
        if name in names and names[name][0] != kind:
            raise Refused("WrongKind", name)
        if name not in names and len(names) >= self.capacity:
            raise Refused("LimitReached", self.capacity)
        if not valid(kind, text):
            raise Refused("InvalidText", None)
        uses = uses_of(text)
        for used in dict.fromkeys(used for _, used in uses):
            if used == name:
                raise Refused("CircularName", name)
            if used not in names:
                raise Refused("UnknownName", used)
            words = {word for word, other in uses if other == used}
            if words != {"call" if names[used][0] == "program" else "named"}:
                raise Refused("WrongKind", used)
        if any(name in self.below(names, used) for _, used in uses):
            raise Refused("CircularName", name)
        names[name] = (kind, plain(text))

    def drop(self, names, name):
        if name not in names:
            raise Refused("UnknownName", name)
        if self.users(name, names):
            raise Refused("NameInUse", self.users(name, names)[0])
        del names[name]

    def rename(self, names, name, other):
        if name not in names:
            raise Refused("UnknownName", name)
        if not is_name(other):
            raise Refused("InvalidName", other)
        if other in names:
            raise Refused("DuplicateName", other)
        names[other] = names.pop(name)
        for user, (kind, text) in list(names.items()):
            names[user] = (kind, USES.sub(
                lambda found: found[1] + " " + (other if found[2] == name else found[2]), text))

    def undo(self):
        if not self.past:
            raise Refused("NothingLeft", None)
        self.ahead.append(self.names)
        self.names = self.past.pop()

    def redo(self):
        if not self.ahead:
            raise Refused("NothingLeft", None)
        self.past.append(self.names)
        self.names = self.ahead.pop()

    def set_capacity(self, most):
        if not (1 <= most <= 12 and most >= len(self.names)):
            raise Refused("LimitReached", 12)
        self.capacity = most

    def whole(self, name):
        """The condition or program of a name with all names replaced."""
        kind, text = self.names[name]
        return self.replaced(parse_condition("ab", text) if kind == "condition" else parse_program("ab", text))

    def replaced(self, meant):
        if meant[0] in ("named", "call"):
            return self.whole(meant[1])
        return tuple(self.replaced(part) if isinstance(part, tuple) else part for part in meant)


def valid(kind, text):
    """Whether one of the texts of the samples is valid: with names in the places it is one of the good ones."""
    shape = USES.sub(lambda found: found[1] + " x", text)
    shapes = [re.sub(r"\{\d\}", "x", good) for good in GOOD[kind]]
    return shape in shapes and all(is_name(name) for _, name in uses_of(text))


def some_text(random, kind, pool):
    """A text, now and then a bad one or one of the other kind."""
    if random.random() < 0.08:
        return random.choice(BAD)
    if random.random() < 0.05:
        kind = KINDS[kind == "condition"]
    text = random.choice(GOOD[kind])
    return re.sub(r"\{\d\}", lambda _: random.choice(pool), text)


def some_command(random, model, names):
    """A command for a book; names has those that may be used."""
    pool = list(model.names) * 4 + names
    kind = random.choice(["condition", "condition", "program", "program", "program", "drop", "rename", "rename", "odd"])
    if kind == "odd" and random.random() < 0.4:
        return random.choice([(), ("drop",), ("drop", "a", "b"), ("rename", "a"), ("condition", "a"), ("other", "a"),
                              ("program", "a", "skip", "skip"), ("Drop", "a"), ("",), ("condition",)])
    odd = ["", "A", "abcdefghi", "a b", "a1", "\u00e4"]
    name = random.choice(pool if random.random() < 0.95 else odd)
    if kind == "drop":
        return (kind, name)
    if kind == "rename":
        return (kind, name, random.choice(names if random.random() < 0.9 else odd + [name]))
    kind = kind if kind in KINDS else "program"
    return (kind, name, some_text(random, kind, pool))
