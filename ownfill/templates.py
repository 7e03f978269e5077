"""Templates: rows of fixed letters and blanks into which one text is put."""

from ownfill.errors import ParseError
from ownfill.turns import check_letters, check_same_letters, check_text, is_turn, turned

EMPTY_TEXT = "-"
PLAIN_BLANK = "{}"


def is_blank(item):
    """Whether an item is a blank: a turn has two or more letters, so it is never one fixed letter."""
    return len(item) > 1


def blank_width(letters, text, at):
    """The number of characters of the whole blank that begins at a place of the text, or 0 if none does."""
    if text[at:at + 2] == PLAIN_BLANK:
        return 2
    end = at + 1 + len(letters)
    if text[at] == "{" and text[end:end + 1] == "}" and is_turn(letters, text[at + 1:end]):
        return len(letters) + 2
    return 0


def read_row(letters, text):
    """The items of a template's text: fixed letters, and the turn of each blank."""
    if text == EMPTY_TEXT:
        return []
    if text == "":
        raise ParseError(0)
    row = []
    at = 0
    while at < len(text):
        if text[at] in letters:
            row.append(text[at])
            at = at + 1
        else:
            width = blank_width(letters, text, at)
            if width == 0:
                raise ParseError(at)
            row.append(letters if width == 2 else text[at + 1:at + width - 1])
            at = at + width
    return row


def item_text(letters, item):
    """A fixed letter as it is, or a blank in its shortest form."""
    if not is_blank(item):
        return item
    if item == letters:
        return PLAIN_BLANK
    return "".join(["{", item, "}"])


def row_text(letters, row):
    """The text of the template with these items."""
    if len(row) == 0:
        return EMPTY_TEXT
    return "".join([item_text(letters, item) for item in row])


def text_parts(row):
    """The part of fixed letters side by side, in a list; an empty list if there are none."""
    if len(row) == 0:
        return []
    return [("text", "".join(row))]


def row_parts(row):
    """The parts of a row of items, in order."""
    found = []
    start = 0
    for at, item in enumerate(row):
        if is_blank(item):
            found.extend(text_parts(row[start:at]))
            found.append(("blank", item))
            start = at + 1
    found.extend(text_parts(row[start:]))
    return found


def turned_row(letters, turn, row):
    """The items of a row with a turn done after it."""
    # A blank's turn is itself a string of letters: to turn these letters is to do the new turn after it.
    return [turned(letters, turn, item) for item in row]


def put_row(letters, row, inner):
    """The items of a row in which the inner items, turned, stand in the place of each blank."""
    made = []
    for item in row:
        if is_blank(item):
            made.extend(turned_row(letters, item, inner))
        else:
            made.append(item)
    return made


class Template:
    """A row of fixed letters and blanks. It never changes; what is made of it is a new template."""

    def __init__(self, letters, text):
        check_letters(letters)
        self.alphabet = letters
        self.places = tuple(read_row(letters, text))

    @classmethod
    def fixed(cls, letters, text):
        """The template without blanks that always gives the text."""
        check_letters(letters)
        check_text(letters, text)
        return cls(letters, row_text(letters, text))

    @classmethod
    def blank(cls, letters, *, turn=None):
        """The template of one blank alone."""
        return cls(letters, item_text(letters, letters if turn is None else turn))

    @property
    def letters(self):
        """The letters of the template's texts."""
        return self.alphabet

    @property
    def blanks(self):
        """The number of blanks."""
        return len([item for item in self.places if is_blank(item)])

    @property
    def size(self):
        """The number of fixed letters."""
        return len([item for item in self.places if not is_blank(item)])

    def row(self):
        """The list of the items: fixed letters, and the turn of each blank."""
        return list(self.places)

    def parts(self):
        """The list of the parts: ("text", TEXT) for fixed letters side by side, ("blank", TURN) for a blank."""
        return row_parts(self.places)

    def text(self):
        """The text of the template."""
        return row_text(self.alphabet, self.places)

    def fill(self, text):
        """What the template gives with the text in its blanks."""
        check_text(self.alphabet, text)
        return "".join(put_row(self.alphabet, self.places, [text]))

    def length(self, size):
        """The length of what the template gives for a text of this length."""
        return self.size + self.blanks * size

    def put(self, other):
        """The template that gives what this one gives for what the other one gives."""
        check_same_letters(self.alphabet, other.alphabet)
        return self.with_row(put_row(self.alphabet, self.places, other.places))

    def turned(self, turn):
        """The template that gives the turned texts of this one."""
        return self.with_row(turned_row(self.alphabet, turn, self.places))

    def mirrored(self):
        """The template with the items from the end to the beginning."""
        return self.with_row(self.places[::-1])

    def with_row(self, row):
        """The template with the same letters and these items."""
        return Template(self.alphabet, row_text(self.alphabet, row))

    def __add__(self, other):
        if not isinstance(other, Template):
            return NotImplemented
        check_same_letters(self.alphabet, other.alphabet)
        return self.with_row([*self.places, *other.places])

    def __eq__(self, other):
        return isinstance(other, Template) and self.alphabet == other.alphabet and self.places == other.places

    def __len__(self):
        return len(self.parts())

    def __str__(self):
        return str(self.text())

    def __repr__(self):
        return f"Template({self.blanks} blanks, {self.size} letters)"
