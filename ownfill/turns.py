"""Letters, texts of them, and the turns that exchange letters one to one."""

from ownfill.errors import InvalidLetters, LettersDiffer, UnknownLetter

LEAST_LETTERS = 2
MOST_LETTERS = 4
LOWERCASE = "abcdefghijklmnopqrstuvwxyz"


def check_letters(letters):
    """Raises InvalidLetters unless the string has 2 to 4 different lowercase letters."""
    if not LEAST_LETTERS <= len(letters) <= MOST_LETTERS:
        raise InvalidLetters()
    for at, letter in enumerate(letters):
        if letter not in LOWERCASE or letter in letters[:at]:
            raise InvalidLetters()


def check_same_letters(letters, other):
    """Raises LettersDiffer unless both strings of letters are the same."""
    if letters != other:
        raise LettersDiffer()


def check_text(letters, text):
    """Raises UnknownLetter with the first position of a sign that does not belong to the letters."""
    for at, letter in enumerate(text):
        if letter not in letters:
            raise UnknownLetter(at)


def is_turn(letters, turn):
    """Whether a string has each of the letters exactly once."""
    return sorted(turn) == sorted(letters)


def turned(letters, turn, text):
    """The text in which each letter is exchanged as the turn says."""
    check_text(letters, text)
    into = dict(zip(letters, turn))
    return "".join([into[letter] for letter in text])


def after(letters, one, other):
    """The turn that does one and then other."""
    return turned(letters, other, one)


def undone(letters, turn):
    """The turn that takes the given one back."""
    return "".join([letters[turn.index(letter)] for letter in letters])


def order_of(letters, turn):
    """The least number from 1 on of times after which the turn has exchanged nothing."""
    many = 1
    made = turn
    while made != letters:
        made = after(letters, made, turn)
        many += 1
    return many


def turns_made(letters, turns):
    """The ascending list of all turns that the given ones make, with the one that exchanges nothing."""
    made = {letters: True}
    waiting = [letters]
    while waiting:
        one = waiting.pop()
        for turn in turns:
            other = after(letters, one, turn)
            if other not in made:
                made[other] = True
                waiting.append(other)
    return sorted(list(made))


def kept_letters(letters, one, other):
    """The letters, in their order, that both turns exchange alike."""
    return "".join([letter for letter, first, second in zip(letters, one, other) if first == second])
