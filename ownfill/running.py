"""Runs: a program that works on a text step by step, and back."""

from ownfill.conditions import condition_holds
from ownfill.errors import NothingLeft, TooLong
from ownfill.programs import check_nameless
from ownfill.templates import Template
from ownfill.turns import check_letters, check_text

MOST_TEXT = 10000


def unfolded(left):
    """What is left to do, with a program that is no block in front.

    What is left to do is a pair of the next program and of what is left behind it, or None; so earlier ones stay.
    """
    program, rest = left
    while program[0] == "block":
        for part in reversed(program[1:]):
            rest = (part, rest)
        program, rest = rest
    return program, rest


def filled_text(letters, fill, text):
    """The text put into a template, given by its text; raises TooLong."""
    template = Template(letters, fill)
    if template.length(len(text)) > MOST_TEXT:
        raise TooLong(MOST_TEXT)
    return template.fill(text)


def stepped(letters, text, left):
    """The text, what is left to do, and the word of the failure or None, behind the next step."""
    program, rest = unfolded(left)
    kind = program[0]
    if kind == "fill":
        return (filled_text(letters, program[1], text), rest, None)
    if kind == "fail":
        return (text, None, program[1])
    if kind == "if":
        chosen = program[2] if condition_holds(letters, program[1], text) else program[3]
        return (text, (chosen, rest), None)
    if kind == "while" and condition_holds(letters, program[1], text):
        return (text, (program[2], (program, rest)), None)
    return (text, rest, None)


class Run:
    """A run of a program on a text."""

    def __init__(self, letters, program, text):
        check_letters(letters)
        check_nameless(program)
        check_text(letters, text)
        self.alphabet = letters
        # The text, what is left to do, and the word of a failure: now, and before each step that was made.
        self.now = (text, (program, None), None)
        self.past = []

    @property
    def present(self):
        """The present text."""
        return self.now[0]

    @property
    def state(self):
        """Whether the run is "running", "ended" or "failed"."""
        if self.now[2] is not None:
            return "failed"
        return "ended" if self.now[1] is None else "running"

    @property
    def word(self):
        """The word with which the run failed, or None."""
        return self.now[2]

    @property
    def steps(self):
        """The number of steps that were made and not taken back."""
        return len(self.past)

    def step(self):
        """Makes a step."""
        if self.state != "running":
            raise NothingLeft()
        following = stepped(self.alphabet, self.now[0], self.now[1])
        self.past.append(self.now)
        self.now = following

    def back(self):
        """Takes the last step back."""
        if len(self.past) == 0:
            raise NothingLeft()
        self.now = self.past.pop()

    def go(self, many):
        """Makes steps while there are some, at most many; returns how many."""
        made = 0
        while made < many and self.state == "running":
            self.step()
            made += 1
        return made

    def __repr__(self):
        return f"Run({len(self.past)} steps, {self.state})"
