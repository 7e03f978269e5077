"""One question: an unknown template is read off what it gives for one text."""

from ownfill.errors import NoTemplate
from ownfill.templates import Template, row_text
from ownfill.turns import check_letters, check_text, is_turn, turned


def question(letters, size):
    """The text from whose filling a template with at most so many fixed letters can be read."""
    check_letters(letters)
    return "".join([letter * (size + 1) for letter in letters])


def turn_at(letters, asked, answer, at):
    """The turn with which the asked text stands in an answer from a place on, or None."""
    piece = answer[at:at + len(asked)]
    step = len(asked) // len(letters)
    turn = piece[::step]
    if is_turn(letters, turn) and turned(letters, turn, asked) == piece:
        return turn
    return None


def read_template(letters, size, answer):
    """The template with at most so many fixed letters that gives an answer for the question."""
    asked = question(letters, size)
    check_text(letters, answer)
    row = []
    fixed = 0
    at = 0
    while at < len(answer):
        turn = turn_at(letters, asked, answer, at)
        # Where the turned question stands, there is a blank. For after a fixed letter, the next blank would begin at
        # most size letters further, and so with more equal letters than are left there of the question's first one.
        if turn is None:
            row.append(answer[at])
            fixed += 1
            at += 1
        else:
            row.append(turn)
            at += len(asked)
    if fixed > size:
        raise NoTemplate()
    return Template(letters, row_text(letters, row))
