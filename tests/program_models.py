"""Plain models of programs, runs, moments and games, and samples of them.

Everything is done here with the texts themselves; nothing but the random source decides what is made.
"""

import re

from tests.models import model_condition_text, model_names, model_word, some_condition
from tests.samples import all_turns, model_fill, model_text, some_items

LEAVES = ["skip", "fill", "fill", "fill", "fail"]
NAMES = ["a", "b", "loop", "if", "while", "skip", "fill", "call", "abcdefgh", "zz"]
WORDS = ["a", "no", "stuck", "failword", "skip"]
# A run of the model that makes more fills than this, or longer texts, is taken for one that may be endless.
MOST_ROUNDS = 80
MOST_LETTERS = 3000


def items_of(letters, text):
    """The items of a template's text."""
    if text == "-":
        return []
    items = []
    for piece in re.findall(r"\{[a-z]*\}|[a-z]", text):
        if piece[0] == "{":
            items.append(("blank", piece[1:-1] or letters))
        else:
            items.append(("letter", piece))
    return items


def own_fill(letters, fill, text):
    """The text put into a template that is given by its text."""
    return model_fill(letters, items_of(letters, fill), text)


def own_holds(letters, condition, text):
    """[10]: whether a condition without names holds for a text."""
    kind, *parts = condition
    if kind == "not":
        return not own_holds(letters, parts[0], text)
    if kind == "and":
        return own_holds(letters, parts[0], text) and own_holds(letters, parts[1], text)
    if kind == "or":
        return own_holds(letters, parts[0], text) or own_holds(letters, parts[1], text)
    if kind == "match":
        return re.fullmatch(parts[0], text) is not None
    if kind == "length":
        return len(text) % parts[1] == parts[0]
    first, second = own_fill(letters, parts[0], text), own_fill(letters, parts[1], text)
    return {"same": first == second, "begins": second.startswith(first), "ends": second.endswith(first),
            "less": model_word(letters, first, second) in ("less", "shorter")}[kind]


def small_condition(random, letters):
    """A condition with few values."""
    kind = random.choice(["match", "length", "length", "same", "begins", "ends", "less"])
    if kind == "match":
        one, other = random.choice(letters), random.choice(letters)
        patterns = ["", ".*" + one, one + ".*", one + "*", ".*" + one + other + ".*", "(" + one + other + ")*", "(..)*",
                    one + "|" + other + other, "(" + one + "|" + other + ".)*", "..*"]
        return ("match", random.choice(patterns))
    if kind == "length":
        modulus = random.choice([1, 2, 2, 3, 3, 4, 5])
        return ("length", random.randrange(modulus), modulus)
    one, other = some_items(random, letters, 2), some_items(random, letters, 3)
    return (kind, model_text(letters, one), model_text(letters, other))


def some_small(random, letters, deep=1):
    """A condition of small ones."""
    kind = random.choice(["small", "small", "not", "and", "or"]) if deep > 0 else "small"
    if kind == "small":
        return small_condition(random, letters)
    if kind == "not":
        return ("not", some_small(random, letters, deep - 1))
    return (kind, some_small(random, letters, deep - 1), some_small(random, letters, deep - 1))


def some_fill(random, letters, most=3, turns=None):
    """The text of a template, with turns among the given ones."""
    items = some_items(random, letters, most)
    if turns is not None:
        items = [(kind, random.choice(turns) if kind == "blank" else what) for kind, what in items]
    return model_text(letters, items)


def some_program(random, letters, deep, *, names=None, ask=some_small, turns=None, nested=False, fails=True):
    """A program. With names there are calls, and conditions of any kind with names; nested: blocks inside of blocks."""
    kind = random.choice(["leaf", "if", "while", "while", "block", "block"]) if deep > 0 else "leaf"
    if kind == "leaf":
        kind = random.choice(LEAVES + ["call"] * (2 * (names is not None)))
        if kind == "skip" or (kind == "fail" and not fails):
            return ("skip",)
        if kind == "call":
            return ("call", random.choice(names))
        return ("fail", random.choice(WORDS)) if kind == "fail" else ("fill", some_fill(random, letters, 3, turns))

    def part():
        return some_program(random, letters, deep - 1, names=names, ask=ask, turns=turns, nested=nested, fails=fails)

    if kind == "block":
        parts = [part() for _ in range(random.randint(2, 3))]
        return flat(("block", *parts)) if not nested else ("block", *parts)
    condition = ask(random, letters) if names is None else some_condition(random, letters, 2, names)[0]
    return ("if", condition, part(), part()) if kind == "if" else ("while", condition, part())


def flat(program):
    """The program without blocks inside of blocks."""
    kind, *parts = program
    if kind == "block":
        made = []
        for part in map(flat, parts):
            made.extend(part[1:] if part[0] == "block" else [part])
        return ("block", *made)
    if kind == "if":
        return (kind, parts[0], flat(parts[1]), flat(parts[2]))
    return (kind, parts[0], flat(parts[1])) if kind == "while" else program


def own_text(program):
    """[11]: the text of a program."""
    kind, *parts = program
    if kind == "block":
        return "; ".join(map(own_text, parts))
    if kind == "while":
        return "while " + model_condition_text(parts[0]) + " [" + own_text(parts[1]) + "]"
    if kind == "if":
        return "if " + model_condition_text(parts[0]) + " [" + own_text(parts[1]) + "] [" + own_text(parts[2]) + "]"
    return kind if kind == "skip" else kind + " " + parts[0]


def own_nodes(program):
    """The program and all programs in it, each one before its parts."""
    kind, *parts = program
    inner = parts if kind == "block" else parts[1:] if kind in ("if", "while") else []
    return [program] + [node for part in inner for node in own_nodes(part)]


def own_names(program):
    """The names in a program, from left to right, each one once."""
    found = []
    for node in own_nodes(program):
        if node[0] == "call":
            found.append(node[1])
        if node[0] in ("if", "while"):
            found.extend(model_names(node[1]))
    return list(dict.fromkeys(found))


def own_conditions(program):
    """The conditions that a program asks."""
    return [node[1] for node in own_nodes(program) if node[0] in ("if", "while")]


class Stopped(Exception):
    """A run of the model has failed, with a word."""


def own_steps(letters, program, text, asked=lambda text: None):
    """A run as a generator of (text, fill or None) behind each step; raises Stopped(word) behind the step of a fail.

    It returns the last text. The function is called with the text of each moment.
    """
    kind, *parts = program
    if kind == "block":
        for part in parts:
            text = yield from own_steps(letters, part, text, asked)
    elif kind == "skip":
        yield text, None
    elif kind == "fill":
        text = own_fill(letters, parts[0], text)
        yield text, parts[0]
    elif kind == "fail":
        yield text, None
        raise Stopped(parts[0])
    elif kind == "if":
        truth = own_holds(letters, parts[0], text)
        yield text, None
        text = yield from own_steps(letters, parts[1] if truth else parts[2], text, asked)
    else:
        while True:
            asked(text)
            truth = own_holds(letters, parts[0], text)
            yield text, None
            if not truth:
                break
            text = yield from own_steps(letters, parts[1], text, asked)
    return text


def own_outcome(letters, program, text, asked=lambda text: None):
    """[14]: the outcome, and the last text; ("open", fills) if the run was stopped because it got long."""
    fills, now = [], text
    try:
        for steps, (now, fill) in enumerate(own_steps(letters, program, text, asked)):
            if fill is not None:
                fills.append(fill)
            if len(fills) > MOST_ROUNDS or len(now) > MOST_LETTERS or steps > 4 * MOST_ROUNDS:
                return ("open", fills), now
    except Stopped as stopped:
        return ("fails", stopped.args[0]), now
    return ("ends", fills), now


def agrees(own, found):
    """Whether an outcome is what the model says; where the model gave up, it may be endless or long."""
    if own[0] != "open":
        return own == found
    return found[0] in ("endless", "fails") or found[1][:len(own[1])] == own[1]


def some_turn_of(random, letters):
    """A blank with a turn, in its shortest form."""
    turn = random.choice(all_turns(letters))
    return "{}" if turn == letters else "{" + turn + "}"
