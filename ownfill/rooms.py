"""Rooms of machines as plain rows and answers: which of them are valid, reached, and alike.

The operators of machines use these functions, so each one changes only what it has made itself.
"""

from ownfill.errors import InvalidMachine


def check_rooms(width, rows, answers):
    """Raises InvalidMachine for the first room with a wrong row or without an answer."""
    for room, row in enumerate(rows):
        strange = [target for target in row if not 0 <= target < len(rows)]
        if len(row) != width or len(strange) > 0 or room >= len(answers):
            raise InvalidMachine(room)
    if len(rows) == 0 or len(answers) > len(rows):
        raise InvalidMachine(len(rows))


def reached_rooms(rows):
    """The rooms that texts lead to, in the order of the least texts that do."""
    order = [0]
    seen = {0: True}
    at = 0
    while at < len(order):
        now = order[at]
        for room in rows[now]:
            if room not in seen:
                seen[room] = True
                order.append(room)
        at = at + 1
    return order


def numbered(marks):
    """For each mark a number, equal for equal marks, in the order in which the marks first occur."""
    numbers = {}
    for mark in marks:
        if mark not in numbers:
            numbers[mark] = len(numbers)
    return [numbers[mark] for mark in marks]


def grouped(pairs):
    """The pairs of a key and the list of all that stands with it, from pairs in ascending order."""
    groups = []
    start = 0
    for end in range(1, len(pairs) + 1):
        key = pairs[start][0]
        if end == len(pairs) or pairs[end][0] != key:
            groups.append((key, [worth for other, worth in pairs[start:end]]))
            start = end
    return groups


def leading_rooms(rows, place):
    """For each room that the letter at a place of the letters leads to: the rooms from which it does."""
    return dict(grouped(sorted([(row[place], room) for room, row in enumerate(rows)])))


def hit_groups(leading, targets, classes):
    """The rooms that lead to one of the targets, grouped by their classes."""
    return grouped(sorted([(classes[room], room) for target in targets for room in leading.get(target, ())]))


def without(rooms, gone):
    """The rooms that are not among those that are gone."""
    left_out = set(gone)
    return [room for room in rooms if room not in left_out]


def members_of(members, classes, number):
    """The rooms of a class; its list may still have some that have gone to other classes, so that few are touched."""
    return [room for room in members[number] if classes[room] == number]


def alike_classes(rows, answers):
    """For each room the number of its class: rooms of a class cannot be told apart, however a text goes on."""
    classes = list(numbered(answers))
    members = [rooms for number, rooms in grouped(sorted([(kind, room) for room, kind in enumerate(classes)]))]
    sizes = [len(rooms) for rooms in members]
    leading = [leading_rooms(rows, place) for place in range(len(rows[0]))]
    waiting = list(range(len(members)))
    while waiting:
        targets = members_of(members, classes, waiting.pop())
        for sources in leading:
            groups = hit_groups(sources, targets, classes)
            for number, hit in groups:
                if len(hit) == sizes[number]:
                    continue
                # What the larger part would still split, the smaller one and the former whole split as well.
                small = hit
                if 2 * len(hit) > sizes[number]:
                    small = without(members_of(members, classes, number), hit)
                    members[number] = hit
                for room in small:
                    classes[room] = len(members)
                sizes[number] = sizes[number] - len(small)
                waiting.append(len(members))
                members.append(small)
                sizes.append(len(small))
    return classes


def least_rooms(rows, answers):
    """The rows and answers of the least machine, as tuples."""
    order = reached_rooms(rows)
    places = {room: at for at, room in enumerate(order)}
    ways = [[places[target] for target in rows[room]] for room in order]
    told = [answers[room] for room in order]
    classes = numbered(alike_classes(ways, told))
    firsts = []
    for room, number in enumerate(classes):
        if number == len(firsts):
            firsts.append(room)
    least = [tuple([classes[target] for target in ways[room]]) for room in firsts]
    return tuple(least), tuple([told[room] for room in firsts])


def paired_rooms(rows, others):
    """The pairs of rooms that texts lead to in two machines with the same letters, and the rows of the pairs."""
    pairs = [(0, 0)]
    numbers = {(0, 0): 0}
    made = []
    while len(made) < len(pairs):
        one, other = pairs[len(made)]
        row = []
        for pair in zip(rows[one], others[other]):
            if pair not in numbers:
                numbers[pair] = len(pairs)
                pairs.append(pair)
            row.append(numbers[pair])
        made.append(row)
    return pairs, made


def room_sources(letters, rows):
    """For each room behind the first one, the room and the letter with which the least text that leads to it ends.

    The rooms are numbered in the order of these texts.
    """
    sources = {}
    for source, row in enumerate(rows):
        for letter, target in zip(letters, row):
            if target > 0 and target not in sources:
                sources[target] = (source, letter)
    return sources


def text_to(sources, room):
    """The least text that leads to a room."""
    text = ""
    now = room
    while now > 0:
        now, letter = sources[now]
        text = letter + text
    return text
