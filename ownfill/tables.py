"""Tables: what a program does with every text."""

from ownfill.backward import Pulls, chain_sources, texts_machine
from ownfill.chains import MOST_PARTS, fills_size, fills_template, fills_text
from ownfill.comparing import equal_texts
from ownfill.conditions import check_no_names
from ownfill.courses import Course
from ownfill.errors import TooLong
from ownfill.machines import Machine, mapped
from ownfill.programs import check_nameless
from ownfill.rooms import paired_rooms, room_sources, text_to
from ownfill.running import MOST_TEXT
from ownfill.turns import check_letters, check_same_letters, check_text
from ownfill.values import MOST_VALUES


class Outcomes:
    """Outcomes with numbers, equal ones with the same number.

    A fill is kept with the number of what is behind it, so that outcomes with a common end share this end.
    """

    def __init__(self):
        self.links = []
        self.numbers = {}

    def number_of(self, link):
        """The number of a link: (kind, word or fill, number of the rest)."""
        if link not in self.numbers:
            self.numbers[link] = len(self.links)
            self.links.append(link)
        return self.numbers[link]

    def last_number(self, point):
        """The number of the outcome at the last point of a course."""
        if point[0] == "fail":
            return self.number_of(("fails", point[1], None))
        return self.number_of(("ends", "", None))

    def number_at(self, point, number):
        """The number of the outcome at a point, from the one behind it."""
        if point[0] == "fill" and self.links[number][0] in ("ends", "fill"):
            return self.number_of(("fill", point[1], number))
        return number

    def outcome_of(self, number):
        """The outcome with a number; its fills are a tuple."""
        fills = []
        kind, word, rest = self.links[number]
        while kind == "fill":
            fills.append(word)
            kind, word, rest = self.links[rest]
        if kind == "ends":
            return ("ends", tuple(fills))
        return ("fails", word) if kind == "fails" else ("endless",)


def value_outcomes(course, outcomes):
    """For each value the number of the outcome of a course."""
    known = {}
    found = []
    for value in range(len(course.worths)):
        path, behind = course.path_from(value, known)
        if behind is None:
            number = outcomes.last_number(course.point_at(path[-1]))
        elif behind in known:
            number = known[behind]
        else:
            number = outcomes.number_of(("endless", "", None))
        for place in reversed(path):
            number = outcomes.number_at(course.point_at(place), number)
            known[place] = number
        found.append(number)
    return found


def compiled(letters, program, *, limit=MOST_VALUES):
    """The table of a program."""
    check_letters(letters)
    check_nameless(program)
    course = Course(letters, program, [], limit)
    outcomes = Outcomes()
    numbers = value_outcomes(course, outcomes)
    rows = {}
    for number in numbers:
        rows.setdefault(number, len(rows))
    finder = course.worths.machine_with([str(rows[number]) for number in numbers])
    return Table(finder, [outcomes.outcome_of(number) for number in rows])


def new_outcome(outcome):
    """An outcome with a list of its own."""
    if outcome[0] == "ends":
        return ("ends", list(outcome[1]))
    return outcome


class Table:
    """The outcomes of a program, and a machine that answers the number of the row of each text, as a string.

    A table never changes.
    """

    def __init__(self, finder, outcomes):
        self.alphabet = finder.letters
        self.finder = finder
        self.outcomes = tuple(outcomes)

    @property
    def letters(self):
        """The letters of the texts."""
        return self.alphabet

    def row_machine(self, rows):
        """The machine that answers True for the texts of some rows."""
        return mapped(self.finder, {str(row): row in rows for row in range(len(self.outcomes))})

    def ending_rows(self):
        """The list of the numbers of the rows on whose texts the program ends."""
        return [row for row, outcome in enumerate(self.outcomes) if outcome[0] == "ends"]

    def rows(self):
        """The list of the pairs of a machine and the outcome of its texts."""
        return [(self.row_machine([row]), new_outcome(outcome)) for row, outcome in enumerate(self.outcomes)]

    def outcome(self, text):
        """The outcome for a text."""
        return new_outcome(self.outcomes[int(self.finder.answer(text))])

    def result(self, text):
        """The text with which the program ends, or None."""
        outcome = self.outcome(text)
        if outcome[0] != "ends":
            return None
        return fills_text(self.alphabet, outcome[1], text, MOST_TEXT)

    def ending(self):
        """The machine that answers True for the texts on which the program ends."""
        return self.row_machine(self.ending_rows())

    def endless(self):
        """The machine that answers True for the texts on which the program runs for ever."""
        return self.row_machine([row for row, outcome in enumerate(self.outcomes) if outcome[0] == "endless"])

    def failing(self, *, word=None):
        """The machine that answers True for the texts on which the program fails, with a word or with any one."""
        return self.row_machine([row for row, outcome in enumerate(self.outcomes)
                                 if outcome[0] == "fails" and word in (None, outcome[1])])

    def before(self, machine):
        """The machine that answers True for the texts on which the program ends with a text of the given machine."""
        check_same_letters(self.alphabet, machine.letters)
        pulls = Pulls(machine)
        groups = {}
        for row in self.ending_rows():
            groups.setdefault(pulls.number_before(self.outcomes[row][1]), []).append(row)
        found = Machine.never(self.alphabet)
        for number in groups:
            found = found | (self.row_machine(groups[number]) & pulls.machines[number])
        return found

    def sources(self, text):
        """The machine that answers True for the texts on which the program ends with this text."""
        check_text(self.alphabet, text)
        whole, single = [], []
        for row in self.ending_rows():
            origins = chain_sources(self.alphabet, self.outcomes[row][1], text)
            if origins is None:
                whole.append(row)
            else:
                single.extend([origin for origin in origins if self.finder.answer(origin) == str(row)])
        return self.row_machine(whole) | texts_machine(self.alphabet, single)

    def most_fills(self):
        """The greatest number of fills with which the program ends, and the least text for it, or None."""
        ending = self.ending_rows()
        if len(ending) == 0:
            return None
        # The rows stand in the order of their least texts, and max takes the first one of several.
        best = max(ending, key=lambda row: len(self.outcomes[row][1]))
        return (len(self.outcomes[best][1]), self.finder.least_text(str(best)))

    def __eq__(self, other):
        return isinstance(other, Table) and self.finder == other.finder and self.outcomes == other.outcomes

    def __len__(self):
        return len(self.outcomes)

    def __repr__(self):
        return f"Table({len(self.outcomes)} rows)"


def common_rooms(one, other):
    """The rows of rooms that read a text in two tables, and for each room the outcomes in both tables."""
    pairs, ways = paired_rooms(one.finder.rows(), other.finder.rows())
    firsts, seconds = one.finder.answers(), other.finder.answers()
    return ways, [(one.outcomes[int(firsts[first])], other.outcomes[int(seconds[second])]) for first, second in pairs]


def both_end(outcomes):
    """Whether both of two outcomes are ends."""
    return outcomes[0][0] == "ends" and outcomes[1][0] == "ends"


def unlike_rooms(told):
    """For each pair of different outcomes the rooms with it, the pairs in the order of the first rooms."""
    rooms = {}
    for room, outcomes in enumerate(told):
        if outcomes[0] != outcomes[1]:
            rooms.setdefault(outcomes, []).append(room)
    return rooms


def check_chains(letters, pairs, limit):
    """Raises TooLong if one of the chains of fills that some pairs of outcomes compare makes too large a template."""
    chains = {chain: True for outcomes in pairs if both_end(outcomes) for kind, chain in outcomes}
    for chain in chains:
        blanks, size = fills_size(letters, chain)
        if blanks + size > limit:
            raise TooLong(limit)


def unlike_text(letters, ways, rooms, chains, limit):
    """The least text that leads to one of some rooms and of which two chains of fills do not make the same, or None."""
    one, other = [fills_template(letters, chain, limit=limit) for chain in chains]
    if one == other:
        return None
    alike = equal_texts(one, other)
    pairs, both = paired_rooms(ways, alike.rows())
    answers = alike.answers()
    wanted = set(rooms)
    for number, (room, target) in enumerate(pairs):
        if room in wanted and not answers[target]:
            return text_to(room_sources(letters, both), number)
    return None


def least_of(letters, texts):
    """The first one, in order, of some texts."""
    return min(texts, key=lambda text: (len(text), [letters.index(letter) for letter in text]))


def parted(one, other, *, limit=MOST_PARTS):
    """The least text on which the programs of two tables do not do the same, or None."""
    letters = one.letters
    check_same_letters(letters, other.letters)
    ways, told = common_rooms(one, other)
    rooms = unlike_rooms(told)
    check_chains(letters, list(rooms), limit)
    sources = room_sources(letters, ways)
    best = None
    for outcomes in rooms:
        found = text_to(sources, rooms[outcomes][0])
        if best is not None and least_of(letters, [best, found]) == best:
            # This text is the least one with these outcomes, and those with the outcomes that follow come behind it.
            return best
        if both_end(outcomes):
            found = unlike_text(letters, ways, rooms[outcomes], [chain for kind, chain in outcomes], limit)
        if found is not None:
            best = found if best is None else least_of(letters, [best, found])
    return best


def is_moment(course, place):
    """Whether a loop's condition is asked at a place of a course, and the last one of its conditions holds there."""
    point = course.point_at(place)
    return point[0] == "ask" and point[4] and course.truth_at(course.many_asked, place)


def value_moments(course, again):
    """For each value whether a course has a moment at which the last one of its conditions holds, or endlessly many."""
    known = {}
    answers = []
    for value in range(len(course.worths)):
        path, behind = course.path_from(value, known)
        if behind is None:
            found = False
        elif behind in known:
            found = known[behind]
        else:
            found = any([is_moment(course, place) for place in path[path.index(behind):]])
        for place in reversed(path):
            found = found or (not again and is_moment(course, place))
            known[place] = found
        answers.append(found)
    return answers


def moment_texts(letters, program, condition, *, again=False, limit=MOST_VALUES):
    """The machine that answers True for the texts whose run has a moment at which a condition holds.

    With again it answers True for those whose run has endlessly many such moments.
    """
    check_letters(letters)
    check_nameless(program)
    check_no_names(condition)
    course = Course(letters, program, [condition], limit)
    return course.worths.machine_with(value_moments(course, again))
