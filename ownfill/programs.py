"""Programs: their texts, their names, and the programs in them."""

from ownfill.conditions import (condition_names, format_condition, read_condition, read_name,
                                template_text)
from ownfill.errors import InvalidText, UnknownName

ASKING_KINDS = ("if", "while")
WORD_KINDS = ("fail", "call")


class Begun:
    """A program whose brackets are being read.

    The head is what stands before the brackets, closed has the programs of the brackets that are closed, and gathered
    those of the one that is not.
    """

    def __init__(self, head):
        self.head = head
        self.closed = []
        self.gathered = []


def block_of(programs):
    """One program that does some programs one after the other."""
    if len(programs) == 1:
        return programs[0]
    return ("block", *programs)


def template_end(text, at):
    """The place behind a template that begins at a place: no template has the signs behind it."""
    end = at
    while end < len(text) and text[end] not in (";", "]"):
        end += 1
    return end


def read_leaf(letters, text, at):
    """The program without brackets that begins at a place, and the place behind it."""
    if text.startswith("skip", at):
        return ("skip",), at + len("skip")
    if text.startswith("fill ", at):
        start = at + len("fill ")
        end = template_end(text, start)
        return ("fill", template_text(letters, text[start:end])), end
    for kind in WORD_KINDS:
        if text.startswith(f"{kind} ", at):
            word, end = read_name(text, at + len(kind) + 1)
            return (kind, word), end
    raise InvalidText()


def read_head(letters, text, at):
    """What stands before the first bracket of a program, and the place behind this bracket.

    None and the same place if no program with brackets begins there.
    """
    for kind in ASKING_KINDS:
        if text.startswith(f"{kind} ", at):
            condition, end = read_condition(letters, text, at + len(kind) + 1)
            if not text.startswith(" [", end):
                raise InvalidText()
            return (kind, condition), end + len(" [")
    return None, at


def close_bracket(frames):
    """Closes the bracket of the last program that has begun; tells whether the program is whole."""
    if len(frames) == 1:
        raise InvalidText()
    frame = frames[-1]
    frame.closed.append(block_of(frame.gathered))
    frame.gathered = []
    if frame.head[0] == "if" and len(frame.closed) == 1:
        return False
    frames.pop()
    frames[-1].gathered.append((*frame.head, *frame.closed))
    return True


def next_place(frames, text, at):
    """Closes the brackets that end at a place; returns where the next program begins, or None at the end."""
    end = at
    while text.startswith("]", end):
        if close_bracket(frames):
            end += 1
        elif text.startswith("] [", end):
            return end + len("] [")
        else:
            raise InvalidText()
    if text.startswith("; ", end):
        return end + len("; ")
    if end < len(text) or len(frames) > 1:
        raise InvalidText()
    return None


def parse_program(letters, text):
    """The program with a text."""
    frames = [Begun(())]
    at = 0
    while at is not None:
        head, at = read_head(letters, text, at)
        if head is None:
            leaf, end = read_leaf(letters, text, at)
            frames[-1].gathered.append(leaf)
            at = next_place(frames, text, end)
        else:
            frames.append(Begun(head))
    return block_of(frames[0].gathered)


def format_program(program):
    """The text of a program without blocks inside of blocks."""
    kind = program[0]
    if kind == "block":
        return "; ".join([format_program(part) for part in program[1:]])
    if kind in ASKING_KINDS:
        brackets = "".join([f" [{format_program(part)}]" for part in program[2:]])
        return f"{kind} {format_condition(program[1])}{brackets}"
    return " ".join(program)


def parts_of(program):
    """The programs that stand directly in a program, from left to right."""
    if program[0] == "block":
        return program[1:]
    if program[0] in ASKING_KINDS:
        return program[2:]
    return ()


def nodes_of(program):
    """The program and all programs in it, each one before its parts, parts from left to right."""
    waiting = [program]
    while waiting:
        now = waiting.pop()
        yield now
        for part in reversed(parts_of(now)):
            waiting.append(part)


def program_names(program):
    """The list of the names in a program, in the order of the first occurrences in its text."""
    names = {}
    for node in nodes_of(program):
        if node[0] == "call":
            names[node[1]] = True
        if node[0] in ASKING_KINDS:
            for name in condition_names(node[1]):
                names[name] = True
    return list(names)


def check_nameless(program):
    """Raises UnknownName of the first name in a program."""
    names = program_names(program)
    if names:
        raise UnknownName(names[0])


def program_fills(program):
    """The list of the texts of the templates in a program."""
    return [node[1] for node in nodes_of(program) if node[0] == "fill"]
