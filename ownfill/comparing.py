"""Comparing two templates that are filled with the same text: for one text, or for all texts at once."""

from ownfill.machines import Machine, mapped, mirrored
from ownfill.templates import is_blank
from ownfill.turns import after, check_same_letters, order_of, turned, undone

WORDS = ("equal", "shorter", "longer", "less", "greater")
EXCHANGED = {"equal": "equal", "shorter": "longer", "longer": "shorter", "less": "greater", "greater": "less"}


def letter_at(text, place):
    """The letter at a place of the text, or None where it is over."""
    return text[place] if place < len(text) else None


def common_size(first, second):
    """The number of letters with which two texts begin alike."""
    # Halving: filled templates are long, and slices compare faster than letters one by one.
    alike = 0
    most = min(len(first), len(second))
    while alike < most:
        middle = (alike + most + 1) // 2
        if first[alike:middle] == second[alike:middle]:
            alike = middle
        else:
            most = middle - 1
    return alike


def first_difference(first, second):
    """None for equal texts, otherwise the first place at which they differ and both letters there."""
    if first == second:
        return None
    place = common_size(first, second)
    return (place, letter_at(first, place), letter_at(second, place))


def letters_word(letters, one, other):
    """How two different letters compare."""
    return "less" if letters.index(one) < letters.index(other) else "greater"


def texts_word(letters, first, second):
    """How two texts compare."""
    found = first_difference(first, second)
    if found is None:
        return "equal"
    place, one, other = found
    if one is None:
        return "shorter"
    if other is None:
        return "longer"
    return letters_word(letters, one, other)


def difference(one, other, text):
    """None if the filled templates are equal, otherwise the first place where they differ and both letters there."""
    check_same_letters(one.letters, other.letters)
    return first_difference(one.fill(text), other.fill(text))


def compared(one, other, text):
    """How the filled templates compare, as one of the five words."""
    check_same_letters(one.letters, other.letters)
    return texts_word(one.letters, one.fill(text), other.fill(text))


def deciding_words(letters, kept, one, other):
    """For each of the kept letters that two turns turn differently: how what they make of it compares."""
    first = dict(zip(letters, one))
    second = dict(zip(letters, other))
    return {letter: letters_word(letters, first[letter], second[letter]) for letter in kept
            if first[letter] != second[letter]}


def go_alike(one, other):
    """Whether two items stay side by side: both are blanks, or the same fixed letter."""
    return one == other or (is_blank(one) and is_blank(other))


def common_start(letters, first, second):
    """How many items of two rows stay side by side, and the list of what their blanks decide, from the left.

    Each entry has the words of the letters that decide; it holds for texts without a letter of an entry before it.
    """
    kept = letters
    decisions = []
    many = 0
    for one, other in zip(first, second):
        if not go_alike(one, other):
            break
        many += 1
        words = deciding_words(letters, kept, one, other) if is_blank(one) else {}
        if words:
            decisions.append(words)
            kept = [letter for letter in kept if letter not in words]
    return many, decisions


def fixed_start(row):
    """The fixed letters with which a row begins."""
    start = ""
    for item in row:
        if is_blank(item):
            break
        start = start + item
    return start


def fixed_size(row):
    """The number of fixed letters of a row."""
    return len([item for item in row if not is_blank(item)])


def word_to_follow(letters, first, second):
    """What the text must follow to leave it undecided how two rows compare, and where the end of it leads back.

    The first row begins with a blank, the second one with fixed letters. If no blank is behind these letters, the
    word ends with them, and None stands for the place. Otherwise the word is endless; it is returned as far as the
    answers for its beginnings have no period yet and one period further.
    """
    start = fixed_start(second)
    back = undone(letters, first[0])
    piece = turned(letters, back, start)
    if len(start) == len(second):
        return piece, None
    turn = after(letters, second[len(start)], back)
    period = len(start) * order_of(letters, turn)
    place = fixed_size(first) + fixed_size(second) + period
    word = ""
    while len(word) < place + period:
        word = word + piece
        piece = turned(letters, turn, piece)
    return word[:place + period], place


def filled_row(row, wholes, size):
    """A row filled with the first letters of a word; wholes has for each turn of a blank the turned word."""
    return "".join([wholes[item][:size] if is_blank(item) else item for item in row])


def beginnings_words(letters, first, second, word):
    """How two rows compare for each beginning of a word, the shortest first."""
    wholes = {item: turned(letters, item, word) for item in [*first, *second] if is_blank(item)}
    return [texts_word(letters, filled_row(first, wholes, size), filled_row(second, wholes, size))
            for size in range(len(word) + 1)]


def even_row(letters, room):
    """The row of a room from which all letters lead to the same room."""
    return [room for letter in letters]


def following_rooms(letters, first, second):
    """The rows and answers of rooms for two rows, of which the first begins with a blank, the second with a letter."""
    word, place = word_to_follow(letters, first, second)
    less, greater, longer = len(word) + 1, len(word) + 2, len(word) + 3
    ends = {"less": less, "greater": greater}
    into = dict(zip(letters, first[0]))
    rows = []
    for at, wanted in enumerate(word):
        rows.append([at + 1 if letter == wanted else ends[letters_word(letters, into[letter], into[wanted])]
                     for letter in letters])
    rows.append(even_row(letters, longer) if place is None else rows[place])
    for end in (less, greater, longer):
        rows.append(even_row(letters, end))
    words = beginnings_words(letters, first, second, word)
    return rows, [*words, "less", "greater", "longer"]


def rest_rooms(letters, first, second):
    """The rows and answers of rooms for two rows that do not begin alike."""
    if len(first) > 0 and len(second) > 0:
        if is_blank(first[0]):
            return following_rooms(letters, first, second)
        if is_blank(second[0]):
            rows, words = following_rooms(letters, second, first)
            return rows, [EXCHANGED[word] for word in words]
    # One of the rows is over, or two letters decide: texts that are not empty have one answer, as any letter has.
    rows = [even_row(letters, 1), even_row(letters, 1)]
    return rows, beginnings_words(letters, first, second, letters[0])


def decided_first(letters, rows, answers, words):
    """The rooms in which the first letter that has a word decides, whatever the given rooms say of the others."""
    ends = {"less": len(rows), "greater": len(rows) + 1}
    ways = [[ends[words[letter]] if letter in words else target for letter, target in zip(letters, row)]
            for row in rows]
    ways.append(even_row(letters, ends["less"]))
    ways.append(even_row(letters, ends["greater"]))
    return ways, [*answers, "less", "greater"]


def comparison(one, other):
    """The machine that tells for each text how the filled templates compare."""
    letters = one.letters
    check_same_letters(letters, other.letters)
    many, decisions = common_start(letters, one.row(), other.row())
    rows, answers = rest_rooms(letters, one.row()[many:], other.row()[many:])
    for words in reversed(decisions):
        rows, answers = decided_first(letters, rows, answers, words)
    return Machine(letters, rows, answers)


def worded_texts(one, other, words):
    """The machine that answers True for the texts with which the templates compare in one of some ways."""
    return mapped(comparison(one, other), {word: word in words for word in WORDS})


def equal_texts(one, other):
    """The machine that answers True for the texts with which both templates give the same."""
    return worded_texts(one, other, ("equal",))


def begins_texts(one, other):
    """The machine that answers True for the texts with which the first template begins the second one."""
    return worded_texts(one, other, ("equal", "shorter"))


def ends_texts(one, other):
    """The machine that answers True for the texts with which the first template ends the second one."""
    return mirrored(begins_texts(one.mirrored(), other.mirrored()))


def less_texts(one, other):
    """The machine that answers True for the texts with which the first template comes before the second one."""
    return worded_texts(one, other, ("less", "shorter"))
