"""Machines: they read a text letter by letter and give an answer, and each one is the least with its answers."""

from ownfill.rooms import check_rooms, leading_rooms, least_rooms, paired_rooms, room_sources, text_to
from ownfill.turns import check_letters, check_same_letters, check_text


def only_row(letters, text, at):
    """The row of the room to which the letters of a text before a place lead; other texts lead to the last room."""
    lost = len(text) + 1
    return [at + 1 if text[at:at + 1] == letter else lost for letter in letters]


def earlier_counts(rows, counts):
    """How many texts with one letter more lead from each room where the counted ones lead."""
    return [sum([counts[target] for target in row]) for row in rows]


def text_at(letters, rows, tables, index):
    """The text with an index, in order, among those that the last table counts at the first room."""
    text = ""
    room = 0
    left = index
    for counts in reversed(tables[:-1]):
        for letter, target in zip(letters, rows[room]):
            if left < counts[target]:
                text = text + letter
                room = target
                break
            left = left - counts[target]
    return text


class Machine:
    """Rooms with answers. It never changes; what is made of it is a new machine."""

    def __init__(self, letters, rows, answers):
        check_letters(letters)
        check_rooms(len(letters), rows, answers)
        self.alphabet = letters
        self.ways, self.told = least_rooms(rows, answers)

    @classmethod
    def always(cls, letters):
        """The machine that answers True for all texts."""
        return cls(letters, [[0 for letter in letters]], [True])

    @classmethod
    def never(cls, letters):
        """The machine that answers False for all texts."""
        return cls(letters, [[0 for letter in letters]], [False])

    @classmethod
    def only(cls, letters, text):
        """The machine that answers True for one text alone."""
        check_letters(letters)
        check_text(letters, text)
        size = len(text)
        rows = [only_row(letters, text, at) for at in range(size + 1)]
        rows.append([size + 1 for letter in letters])
        return cls(letters, rows, [at == size for at in range(size + 2)])

    @property
    def letters(self):
        """The letters of the texts that the machine reads."""
        return self.alphabet

    def rows(self):
        """The list of the rows: for each room the list of the rooms to which the letters lead."""
        return [list(row) for row in self.ways]

    def answers(self):
        """The list of the answers of the rooms."""
        return list(self.told)

    def answer(self, text):
        """The answer for a text."""
        check_text(self.alphabet, text)
        room = 0
        for letter in text:
            room = self.ways[room][self.alphabet.index(letter)]
        return self.told[room]

    def texts(self, answer, *, many=10):
        """The first texts with an answer, in order, at most many."""
        counts = [1 if told == answer else 0 for told in self.told]
        tables = []
        left = many
        quiet = 0
        # If longer texts had the answer, loops cut out of them would give one of the lengths that gave none.
        while left > 0 and quiet < len(self.told):
            tables.append([min(many, number) for number in counts])
            found = min(left, tables[-1][0])
            for index in range(found):
                yield text_at(self.alphabet, self.ways, tables, index)
            left = left - found
            quiet = quiet + 1 if found == 0 else 0
            counts = earlier_counts(self.ways, tables[-1])

    def least_text(self, answer):
        """The first text with an answer, or None."""
        for room, told in enumerate(self.told):
            if told == answer:
                return text_to(room_sources(self.alphabet, self.ways), room)
        return None

    def count(self, answer, size):
        """How many texts of a length have an answer."""
        counts = [1 if told == answer else 0 for told in self.told]
        for step in range(size):
            counts = earlier_counts(self.ways, counts)
        return counts[0]

    def __and__(self, other):
        check_same_letters(self.alphabet, other.alphabet)
        pairs, rows = paired_rooms(self.ways, other.ways)
        return Machine(self.alphabet, rows, [self.told[first] and other.told[second] for first, second in pairs])

    def __or__(self, other):
        check_same_letters(self.alphabet, other.alphabet)
        pairs, rows = paired_rooms(self.ways, other.ways)
        return Machine(self.alphabet, rows, [self.told[first] or other.told[second] for first, second in pairs])

    def __invert__(self):
        return Machine(self.alphabet, self.ways, [not told for told in self.told])

    def __eq__(self, other):
        return (isinstance(other, Machine) and self.alphabet == other.alphabet and self.ways == other.ways
                and self.told == other.told)

    def __len__(self):
        return len(self.told)

    def __repr__(self):
        return f"Machine({len(self.told)} rooms)"


def explored(letters, start, step, holds):
    """The machine whose rooms are keys: it begins with one, step(key, place of a letter) tells the next one."""
    keys = [start]
    numbers = {start: 0}
    rows = []
    while len(rows) < len(keys):
        row = []
        for place in range(len(letters)):
            key = step(keys[len(rows)], place)
            if key not in numbers:
                numbers[key] = len(keys)
                keys.append(key)
            row.append(numbers[key])
        rows.append(row)
    return Machine(letters, rows, [holds(key) for key in keys])


def mapped(machine, answers):
    """The machine with other answers; those that are not in the dict stay."""
    told = [answers.get(old, old) for old in machine.answers()]
    return Machine(machine.letters, machine.rows(), told)


def joined(one, other):
    """The machine that answers True for a text of the first machine and then a text of the second one."""
    check_same_letters(one.letters, other.letters)
    first, first_told = one.rows(), one.answers()
    second, second_told = other.rows(), other.answers()

    def with_start(room, rooms):
        # Wherever a text of the first machine ends, a text of the second one may begin.
        begun = [*rooms, 0] if first_told[room] else rooms
        return (room, tuple(sorted(set(begun))))

    def step(key, place):
        room, rooms = key
        return with_start(first[room][place], [second[target][place] for target in rooms])

    return explored(one.letters, with_start(0, []), step, lambda key: any([second_told[room] for room in key[1]]))


def repeated(machine):
    """The machine that answers True for any number of the machine's texts one behind the other."""
    rows, told = machine.rows(), machine.answers()

    def step(key, place):
        rooms = [rows[room][place] for room in key[1]]
        # Room 0 may also be reached inside of a text, so the key says apart from it whether a text has ended.
        ended = any([told[room] for room in rooms])
        begun = [*rooms, 0] if ended else rooms
        return (ended, tuple(sorted(set(begun))))

    return explored(machine.letters, (True, (0,)), step, lambda key: key[0])


def mirrored(machine):
    """The machine that answers True for the machine's texts read from the end to the beginning."""
    rows = machine.rows()
    leading = [leading_rooms(rows, place) for place in range(len(machine.letters))]
    ends = [end for end, told in enumerate(machine.answers()) if told]

    def step(rooms, place):
        return tuple(sorted([source for room in rooms for source in leading[place].get(room, ())]))

    return explored(machine.letters, tuple(ends), step, lambda rooms: 0 in rooms)
