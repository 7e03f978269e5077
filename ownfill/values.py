"""Values: classes of texts that conditions cannot tell apart, whatever stands around them and however they turn."""

from ownfill.conditions import check_no_names, condition_machine, format_condition
from ownfill.errors import TooMany
from ownfill.machines import Machine, explored
from ownfill.templates import Template, is_blank
from ownfill.turns import check_letters, check_same_letters, check_text, turns_made

MOST_VALUES = 2000


def turned_places(letters, turn):
    """For the place of each letter the place of the letter into which it is turned."""
    return [letters.index(letter) for letter in turn]


def reached_from(rows, rooms):
    """The ascending list of the rooms to which texts lead from some rooms."""
    seen = {room: True for room in rooms}
    waiting = list(rooms)
    while waiting:
        now = waiting.pop()
        for room in rows[now]:
            if room not in seen:
                seen[room] = True
                waiting.append(room)
    return sorted(list(seen))


def blank_slots(letters, rows, items):
    """The pairs of a turn and a room in which a machine may be before a blank with this turn, each with a number."""
    slots = {}
    rooms = [0]
    for item in items:
        if is_blank(item):
            for room in rooms:
                slots.setdefault((item, room), len(slots))
            rooms = reached_from(rows, rooms)
        else:
            rooms = sorted(set([rows[room][letters.index(item)] for room in rooms]))
    return slots


def pulled(machine, template):
    """The machine that gives for each text the answer of the given machine for the filled template."""
    letters = machine.letters
    check_same_letters(letters, template.letters)
    rows, answers, items = machine.rows(), machine.answers(), template.row()
    slots = blank_slots(letters, rows, items)
    places = [turned_places(letters, turn) for turn, room in slots]

    def step(rooms, place):
        return tuple([rows[at][into[place]] for at, into in zip(rooms, places)])

    def answer_of(rooms):
        now = 0
        for item in items:
            now = rooms[slots[(item, now)]] if is_blank(item) else rows[now][letters.index(item)]
        return answers[now]

    # For each slot one follows where the turned text leads from its room.
    return explored(letters, tuple([room for turn, room in slots]), step, answer_of)


def numbered_rows(width, start, step, limit):
    """The rows of the keys that are reached from one, numbered in the order of the least texts that lead to them.

    step(key, place of a letter) tells the next key. Raises TooMany if there are more keys than the limit.
    """
    keys = [start]
    numbers = {start: 0}
    rows = []
    while len(rows) < len(keys):
        if len(keys) > limit:
            raise TooMany(limit)
        row = []
        for place in range(width):
            key = step(keys[len(rows)], place)
            if key not in numbers:
                numbers[key] = len(keys)
                keys.append(key)
            row.append(numbers[key])
        rows.append(row)
    return rows


def map_rows(machine, limit):
    """The rows of the maps that texts make of the rooms of a machine: each text leads from each room to a room."""
    # Texts that lead to different rooms have different values, so too many rooms need not be followed.
    if len(machine) > limit:
        raise TooMany(limit)
    rows = machine.rows()
    columns = [[row[place] for row in rows] for place in range(len(machine.letters))]

    def step(rooms, place):
        column = columns[place]
        return tuple([column[room] for room in rooms])

    return numbered_rows(len(columns), tuple(range(len(rows))), step, limit)


def turned_rows(letters, turn, rows):
    """The rows that turned texts follow, as tuples."""
    places = turned_places(letters, turn)
    return tuple([tuple([row[place] for place in places]) for row in rows])


def paired_rows(width, one, other, limit):
    """The rows that tell what both given rows tell."""

    def step(pair, place):
        return (one[pair[0]][place], other[pair[1]][place])

    return numbered_rows(width, (0, 0), step, limit)


def value_rows(letters, machines, turns, limit):
    """The rows of the values: for each value those to which a letter behind its texts leads.

    A least machine tells texts apart, whatever stands around them, exactly by the maps that they make of its rooms.
    """
    apart = {}
    for machine in machines:
        rows = map_rows(machine, limit)
        for turn in turns:
            apart[turned_rows(letters, turn, rows)] = True
    whole = numbered_rows(len(letters), 0, lambda key, place: 0, limit)
    for rows in apart:
        whole = paired_rows(len(letters), whole, rows, limit)
    return whole


def least_texts(letters, rows):
    """For each value the least text with it; the rows stand in the order of these texts."""
    texts = {0: ""}
    for value, row in enumerate(rows):
        for letter, target in zip(letters, row):
            texts.setdefault(target, texts[value] + letter)
    return [texts[value] for value in range(len(rows))]


def rooms_reached(rows, machine):
    """For each value the room of a machine to which its texts lead."""
    ways = machine.rows()
    rooms = {0: 0}
    for value, row in enumerate(rows):
        for target, room in zip(row, ways[rooms[value]]):
            rooms.setdefault(target, room)
    return [rooms[value] for value in range(len(rows))]


def value_truths(rows, machine):
    """For each value whether a machine answers True for its texts."""
    answers = machine.answers()
    return [answers[room] for room in rooms_reached(rows, machine)]


class Values:
    """The values for some conditions and turns. They never change."""

    def __init__(self, letters, conditions, turns=(), *, limit=MOST_VALUES):
        check_letters(letters)
        for condition in conditions:
            check_no_names(condition)
        keys = [format_condition(condition) for condition in conditions]
        machines = {}
        for key, condition in zip(keys, conditions):
            if key not in machines:
                machines[key] = condition_machine(letters, condition)
        made = turns_made(letters, turns)
        self.alphabet = letters
        self.many_turns = len(made)
        self.ways = value_rows(letters, list(machines.values()), made, limit)
        self.firsts = least_texts(letters, self.ways)
        truths = {key: value_truths(self.ways, machines[key]) for key in machines}
        self.truths = [truths[key] for key in keys]

    @property
    def letters(self):
        """The letters of the texts."""
        return self.alphabet

    def value_behind(self, value, text, turn):
        """The value of a text with the given value and the turned text behind it."""
        places = dict(zip(self.alphabet, turned_places(self.alphabet, turn)))
        now = value
        for letter in text:
            now = self.ways[now][places[letter]]
        return now

    def value_of(self, text):
        """The value of a text."""
        check_text(self.alphabet, text)
        return self.value_behind(0, text, self.alphabet)

    def first_text(self, value):
        """The least text with a value."""
        return self.firsts[value]

    def holds(self, value):
        """The list that tells for each condition whether it holds for the texts with a value."""
        return [truths[value] for truths in self.truths]

    def filled(self, fill, value):
        """The value of a template, given by its text, that is filled with a text with a value."""
        now = 0
        for item in Template(self.alphabet, fill).row():
            if is_blank(item):
                now = self.value_behind(now, self.firsts[value], item)
            else:
                now = self.value_behind(now, item, self.alphabet)
        return now

    def machine_with(self, answers):
        """The machine that gives for each text the answer at its value in a list."""
        return Machine(self.alphabet, self.ways, answers)

    def __len__(self):
        return len(self.ways)

    def __repr__(self):
        return f"Values({len(self.ways)} values, {self.many_turns} turns)"
