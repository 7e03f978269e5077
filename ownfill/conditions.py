"""Conditions on a text: their texts, their names, and for which texts they hold."""

from ownfill.comparing import begins_texts, compared, ends_texts, equal_texts, less_texts
from ownfill.errors import InvalidText, ParseError, UnknownName
from ownfill.machines import Machine
from ownfill.patterns import check_pattern, pattern_holds, pattern_machine
from ownfill.templates import Template
from ownfill.turns import LOWERCASE, check_text

MOST_MODULUS = 60
MOST_NAME = 8
# The words of a comparison for which a condition on two templates holds; "ends" is read from the right.
HOLDING_WORDS = {"same": ("equal",), "begins": ("equal", "shorter"), "ends": ("equal", "shorter"),
                 "less": ("less", "shorter")}


def read_name(text, at):
    """The name that begins at a place of the text, and the place behind it."""
    end = at
    while end < len(text) and text[end] in LOWERCASE:
        end += 1
    if not 1 <= end - at <= MOST_NAME:
        raise InvalidText()
    return text[at:end], end


def template_text(letters, text):
    """The text that a template itself returns, for any text of it."""
    try:
        return Template(letters, text).text()
    except ParseError:
        raise InvalidText() from None


def closing_place(text, at):
    """The place of the parenthesis that closes the one before a place."""
    depth = 1
    for place in range(at, len(text)):
        if text[place] == "(":
            depth += 1
        elif text[place] == ")":
            depth -= 1
        if depth == 0:
            return place
    raise InvalidText()


def two_parts(text):
    """The two parts of a text with one comma."""
    parts = text.split(",")
    if len(parts) != 2:
        raise InvalidText()
    return parts


def match_of(letters, text):
    """The condition with a pattern."""
    try:
        check_pattern(letters, text)
    except ParseError:
        raise InvalidText() from None
    return ("match", text)


def length_of(text):
    """The condition with two numbers, which have exactly the forms that Python itself gives them."""
    numbers = {str(number): number for number in range(MOST_MODULUS + 1)}
    one, other = two_parts(text)
    if one not in numbers or other not in numbers or numbers[one] >= numbers[other]:
        raise InvalidText()
    return ("length", numbers[one], numbers[other])


def templates_of(letters, kind, text):
    """The condition of a kind with two templates."""
    one, other = two_parts(text)
    return (kind, template_text(letters, one), template_text(letters, other))


def read_simple(letters, text, at):
    """The condition without conditions in it that begins at a place, and the place behind it."""
    if text.startswith("named ", at):
        name, end = read_name(text, at + len("named "))
        return ("named", name), end
    kind = text[at:].partition("(")[0]
    start = at + len(kind) + 1
    end = closing_place(text, start)
    inner = text[start:end]
    if kind == "match":
        return match_of(letters, inner), end + 1
    if kind == "length":
        return length_of(inner), end + 1
    if kind not in HOLDING_WORDS:
        raise InvalidText()
    return templates_of(letters, kind, inner), end + 1


def begun_conditions(text, at):
    """The list of the words "not" and "(" that stand from a place on, and the place behind them."""
    begun = []
    end = at
    while True:
        if text.startswith("not ", end):
            begun.append("not")
            end += len("not ")
        elif text.startswith("(", end):
            begun.append("(")
            end += len("(")
        else:
            return begun, end


def linking_word(text, at):
    """The word between two conditions that stands at a place."""
    for word in ("and", "or"):
        if text.startswith(f" {word} ", at):
            return word
    raise InvalidText()


def read_condition(letters, text, at):
    """The condition that begins at a place of the text, and the place behind it."""
    # What has begun: "not", "(", or a pair of the linking word and the condition before it.
    begun = []
    end = at
    while True:
        more, end = begun_conditions(text, end)
        begun.extend(more)
        condition, end = read_simple(letters, text, end)
        while begun and begun[-1] != "(":
            last = begun.pop()
            if last == "not":
                condition = ("not", condition)
            elif text.startswith(")", end):
                condition = (last[0], last[1], condition)
                end += 1
            else:
                raise InvalidText()
        if not begun:
            return condition, end
        word = linking_word(text, end)
        begun[-1] = (word, condition)
        end += len(word) + 2


def parse_condition(letters, text):
    """The condition with a text."""
    condition, end = read_condition(letters, text, 0)
    if end != len(text):
        raise InvalidText()
    return condition


def format_condition(condition):
    """The text of a condition."""
    kind = condition[0]
    if kind == "named":
        return f"named {condition[1]}"
    if kind == "not":
        return f"not {format_condition(condition[1])}"
    if kind in ("and", "or"):
        return f"({format_condition(condition[1])} {kind} {format_condition(condition[2])})"
    inner = ",".join([str(part) for part in condition[1:]])
    return f"{kind}({inner})"


def condition_names(condition):
    """The list of the names in a condition, in the order of the first occurrences."""
    names = {}
    waiting = [condition]
    while waiting:
        now = waiting.pop()
        if now[0] == "named":
            names[now[1]] = True
        if now[0] in ("not", "and", "or"):
            for part in reversed(now[1:]):
                waiting.append(part)
    return list(names)


def check_no_names(condition):
    """Raises UnknownName of the first name in a condition."""
    names = condition_names(condition)
    if names:
        raise UnknownName(names[0])


def length_machine(letters, rest, modulus):
    """The machine that answers True for the texts whose length leaves the rest by the modulus."""
    rows = [[(room + 1) % modulus for letter in letters] for room in range(modulus)]
    return Machine(letters, rows, [room == rest for room in range(modulus)])


def simple_machine(letters, condition):
    """The machine of a condition without conditions in it."""
    kind = condition[0]
    if kind == "match":
        return pattern_machine(letters, condition[1])
    if kind == "length":
        return length_machine(letters, condition[1], condition[2])
    one, other = Template(letters, condition[1]), Template(letters, condition[2])
    if kind == "same":
        return equal_texts(one, other)
    if kind == "begins":
        return begins_texts(one, other)
    if kind == "ends":
        return ends_texts(one, other)
    return less_texts(one, other)


def nameless_machine(letters, condition):
    """The machine of a condition without names."""
    kind = condition[0]
    if kind == "not":
        return ~nameless_machine(letters, condition[1])
    if kind == "and":
        return nameless_machine(letters, condition[1]) & nameless_machine(letters, condition[2])
    if kind == "or":
        return nameless_machine(letters, condition[1]) | nameless_machine(letters, condition[2])
    return simple_machine(letters, condition)


def condition_machine(letters, condition):
    """The machine that answers True for the texts for which a condition holds."""
    check_no_names(condition)
    return nameless_machine(letters, condition)


def simple_holds(letters, condition, text):
    """Whether a condition without conditions in it holds for a text."""
    kind = condition[0]
    if kind == "match":
        return pattern_holds(letters, condition[1], text)
    if kind == "length":
        return len(text) % condition[2] == condition[1]
    one, other = Template(letters, condition[1]), Template(letters, condition[2])
    if kind == "ends":
        return compared(one.mirrored(), other.mirrored(), text[::-1]) in HOLDING_WORDS[kind]
    return compared(one, other, text) in HOLDING_WORDS[kind]


def nameless_holds(letters, condition, text):
    """Whether a condition without names holds for a text."""
    kind = condition[0]
    if kind == "not":
        return not nameless_holds(letters, condition[1], text)
    if kind == "and":
        return nameless_holds(letters, condition[1], text) and nameless_holds(letters, condition[2], text)
    if kind == "or":
        return nameless_holds(letters, condition[1], text) or nameless_holds(letters, condition[2], text)
    return simple_holds(letters, condition, text)


def condition_holds(letters, condition, text):
    """Whether a condition holds for a text."""
    check_no_names(condition)
    check_text(letters, text)
    return nameless_holds(letters, condition, text)
