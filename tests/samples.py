"""Samples for the tests, and a plain model of turns and templates to compare the package with.

In the model a template is a list of items, each of which is ("letter", LETTER) or ("blank", TURN).
"""

from itertools import permutations, product
from random import Random

from ownfill.templates import Template

ALL_LETTERS = ["ab", "ba", "xq", "abc", "cab", "zmk", "abcd", "dacb"]
BAD_LETTERS = ["", "a", "aa", "aba", "abca", "abcde", "aB", "AB", "a1", "12", "a ", " ab", "a-", "a{", "a}b", "ab\n",
               "a\u00e4", "\u00df\u00e4", "ab\u0430"]


def all_turns(letters):
    return ["".join(turn) for turn in permutations(letters)]


def texts_up_to(letters, most):
    return ["".join(text) for size in range(most + 1) for text in product(letters, repeat=size)]


def some_text(random, letters, most=12):
    return "".join(random.choice(letters) for _ in range(random.randint(0, most)))


def some_items(random, letters, most=8):
    items = []
    for _ in range(random.randint(0, most)):
        if random.random() < 0.5:
            items.append(("letter", random.choice(letters)))
        elif random.random() < 0.4:
            items.append(("blank", letters))
        else:
            items.append(("blank", random.choice(all_turns(letters))))
    return items


def some_cases(seed, many):
    """Many pairs of letters and items, together with the random source that made them."""
    random = Random(seed)
    for at in range(many):
        letters = ALL_LETTERS[at % len(ALL_LETTERS)]
        yield random, letters, some_items(random, letters)


def model_turned(letters, turn, text):
    """Each letter of the text by its place in the letters."""
    result = ""
    for letter in text:
        for place in range(len(letters)):
            if letters[place] == letter:
                result += turn[place]
    return result


def model_text(letters, items, *, long=lambda: False):
    """The text of some items; where long() is true, {ab} stands for {}."""
    result = ""
    for kind, what in items:
        if kind == "letter":
            result += what
        elif what == letters and not long():
            result += "{}"
        else:
            result += "{" + what + "}"
    return result if items else "-"


def model_fill(letters, items, text):
    result = ""
    for kind, what in items:
        result += what if kind == "letter" else model_turned(letters, what, text)
    return result


def model_put(letters, items, inner):
    result = []
    for kind, what in items:
        if kind == "letter":
            result.append((kind, what))
        else:
            result += model_turned_items(letters, what, inner)
    return result


def model_turned_items(letters, turn, items):
    return [(kind, model_turned(letters, turn, what)) for kind, what in items]


def model_parts(items):
    result = []
    for kind, what in items:
        if kind == "blank":
            result.append(("blank", what))
        elif result and result[-1][0] == "text":
            result[-1] = ("text", result[-1][1] + what)
        else:
            result.append(("text", what))
    return result


def template_of(letters, items):
    return Template(letters, model_text(letters, items))
