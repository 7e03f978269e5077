"""[8]: machines and their rooms: answers, the least machine, what is refused, other answers, equality."""

import unittest
from random import Random

from ownfill.errors import InvalidLetters, InvalidMachine, UnknownLetter
from ownfill.machines import Machine, mapped
from tests.models import SHORT, check_least, some_rooms, walked
from tests.samples import ALL_LETTERS, BAD_LETTERS, some_text, texts_up_to

WORDS = ["red", "green", "", "True"]


def some_machines(seed, many):
    """Many letters with rooms that answer by truths, by words, or by both."""
    random = Random(seed)
    for at in range(many):
        letters = ALL_LETTERS[at % len(ALL_LETTERS)]
        words = ((True, False), WORDS, [True, False, "True", "x"], [True])[random.randrange(4)]
        rows, answers = some_rooms(random, letters, words=words)
        yield random, letters, rows, answers


class Rooms(unittest.TestCase):
    def check(self, machine, letters, rows, answers, texts):
        self.assertEqual(machine.letters, letters)
        for text in texts:
            wanted = walked(letters, rows, answers, text)
            self.assertIs(type(machine.answer(text)), type(wanted))
            self.assertEqual(machine.answer(text), wanted)

    def test_answers_by_an_own_walk_and_the_least_machine(self):
        for random, letters, rows, answers in some_machines(81, 600):
            machine = Machine(letters, rows, answers)
            texts = texts_up_to(letters, SHORT[len(letters)] - 1)
            self.check(machine, letters, rows, answers, texts)
            check_least(self, machine)
            self.assertLessEqual(len(machine), len(rows))
            self.assertEqual([len(machine.rows()), len(machine.answers())], [len(machine)] * 2)
            self.assertEqual(repr(machine), "Machine(" + str(len(machine)) + " rooms)")
            self.check(Machine(letters, machine.rows(), machine.answers()), letters, rows, answers, texts[:30])

    def test_asked_twice_with_lists_changed_in_between(self):
        for random, letters, rows, answers in some_machines(82, 200):
            given_rows, given_answers = [list(row) for row in rows], list(answers)
            machine = Machine(letters, given_rows, given_answers)
            self.assertEqual([given_rows, given_answers], [rows, answers])
            before = [machine.rows(), machine.answers(), len(machine)]
            given_rows[0][0] = 0
            given_rows.append([0])
            given_answers[0] = "changed"
            shown = machine.rows()
            shown[0][0] = -1
            shown.append([])
            machine.answers().append("more")
            machine.answers()[0] = "changed"
            self.assertEqual([machine.rows(), machine.answers(), len(machine)], before)
            self.check(machine, letters, rows, answers, texts_up_to(letters, 3))
            self.assertIsInstance(machine.rows(), list)
            self.assertTrue(all(type(row) is list for row in machine.rows()))
            self.assertIs(type(machine.answers()), list)

    def test_tuples_and_arguments_by_name(self):
        for random, letters, rows, answers in some_machines(83, 100):
            wanted = Machine(letters, rows, answers)
            self.assertEqual(Machine(letters, tuple(tuple(row) for row in rows), tuple(answers)), wanted)
            self.assertEqual(Machine(answers=answers, rows=rows, letters=letters), wanted)
            text = some_text(random, letters)
            self.assertEqual(wanted.answer(text=text), wanted.answer(text))

    def test_known_machine(self):
        machine = Machine("ab", [[3, 1], [2, 2], [2, 1], [3, 1], [0, 0]], [False, True, True, False, True])
        self.assertEqual(machine.rows(), [[0, 1], [1, 1]])
        self.assertEqual(machine.answers(), [False, True])
        self.assertEqual([len(machine), repr(machine)], [2, "Machine(2 rooms)"])
        self.assertEqual(repr(Machine("ab", [[0, 0]], ["x"])), "Machine(1 rooms)")

    def test_rooms_in_the_order_of_the_letters(self):
        rows, answers = [[1, 2], [1, 1], [2, 2]], ["", "one", "two"]
        self.assertEqual(Machine("ab", rows, answers).answers(), ["", "one", "two"])
        self.assertEqual(Machine("ab", [[2, 1], [1, 1], [2, 2]], answers).answers(), ["", "two", "one"])
        self.assertEqual(Machine("ba", rows, answers).answer("a"), "two")

    def test_long_chains_stay_least(self):
        for size in (100, 1000):
            rows = [[min(room + 1, size), 0] for room in range(size + 1)]
            machine = Machine("ab", rows, [room == size for room in range(size + 1)])
            self.assertEqual([len(machine), machine.rows()], [size + 1, rows])

    def test_a_long_text(self):
        for random, letters, rows, answers in some_machines(84, 40):
            text = "".join(random.choice(letters) for _ in range(300))
            self.check(Machine(letters, rows, answers), letters, rows, answers, [text])

    def test_unknown_letter(self):
        for random, letters, rows, answers in some_machines(85, 200):
            text = some_text(random, letters)
            place = random.randint(0, len(text))
            sign = random.choice([sign for sign in "efgA0 -{}\u00e4" if sign not in letters])
            with self.assertRaises(UnknownLetter) as caught:
                Machine(letters, rows, answers).answer(text[:place] + sign + text[place:] + "?")
            self.assertEqual(caught.exception.position, place)

    def test_letters_are_not_assigned(self):
        with self.assertRaises(AttributeError):
            Machine.always("ab").letters = "ba"


class Refused(unittest.TestCase):
    def check(self, letters, rows, answers, room):
        with self.assertRaises(InvalidMachine) as caught:
            Machine(letters, rows, answers)
        self.assertEqual(caught.exception.room, room)

    def test_rooms_spoilt_at_one_place(self):
        for random, letters, rows, answers in some_machines(86, 150):
            for room in range(len(rows)):
                place = random.randrange(len(letters))
                for row in (rows[room][:-1], rows[room] + [0], [], rows[room][:place] + [len(rows)]
                            + rows[room][place + 1:], rows[room][:place] + [-1] + rows[room][place + 1:],
                            rows[room][:place] + [-len(rows)] + rows[room][place + 1:]):
                    spoilt = rows[:room] + [row] + rows[room + 1:]
                    self.check(letters, spoilt, answers, room)
                    self.check(letters, spoilt, answers[:room], room)
                    self.check(letters, spoilt, answers + ["more"], room)
                    if room > 0:
                        self.check(letters, spoilt, answers[:room - 1], room - 1)
                self.check(letters, rows, answers[:room], room)

    def test_too_many_answers_and_no_rooms(self):
        for random, letters, rows, answers in some_machines(87, 60):
            self.check(letters, rows, answers + [True], len(rows))
            self.check(letters, rows, answers + ["x", "y"], len(rows))
            self.check(letters, [], [], 0)
            self.check(letters, [], answers, 0)

    def test_two_rooms_spoilt(self):
        self.check("ab", [[0, 1], [0], [5, 0]], [True, True, True], 1)
        self.check("ab", [[0, 1], [0, 1], [5, 0]], [True], 1)
        self.check("ab", [[0, 1], [0, 2], [0, 3]], [True, True], 2)
        self.check("abc", [[0, 0, 0], [0, 0]], [True, True], 1)

    def test_wrong_letters_come_first(self):
        for letters in BAD_LETTERS:
            for rows, answers in (([[0] * len(letters)], [True]), ([], []), ([[7]], [])):
                with self.subTest((letters, rows)), self.assertRaises(InvalidLetters):
                    Machine(letters, rows, answers)


class Made(unittest.TestCase):
    def test_always_and_never(self):
        for letters in ALL_LETTERS:
            for machine, wanted in ((Machine.always(letters), True), (Machine.never(letters=letters), False)):
                self.assertIsInstance(machine, Machine)
                self.assertEqual([machine.letters, machine.rows(), machine.answers()],
                                 [letters, [[0] * len(letters)], [wanted]])
                self.assertTrue(all(machine.answer(text) is wanted for text in texts_up_to(letters, 3)))

    def test_only(self):
        random = Random(88)
        for letters in ALL_LETTERS:
            for size in range(11):
                text = "".join(random.choice(letters) for _ in range(size))
                machine = Machine.only(letters, text)
                self.assertEqual(machine.letters, letters)
                self.assertEqual(Machine.only(text=text, letters=letters), machine)
                near = [text[:place] + more + text[place + cut:] for place in range(size + 1)
                        for more in ("", *letters) for cut in (0, 1)]
                for other in near + texts_up_to(letters, 3) + [text + text, text[::-1]]:
                    self.assertIs(machine.answer(other), other == text)
                check_least(self, machine)
                self.assertEqual(len(machine), size + 2)

    def test_only_with_a_long_text(self):
        machine = Machine.only("ab", "ab" * 150)
        self.assertEqual([len(machine), machine.answer("ab" * 150), machine.answer("ab" * 149)], [302, True, False])

    def test_errors(self):
        for letters in BAD_LETTERS:
            for make in (Machine.always, Machine.never, lambda given: Machine.only(given, "?"),
                         lambda given: Machine.only(given, given)):
                with self.subTest(letters), self.assertRaises(InvalidLetters):
                    make(letters)
        for text, position in (("c", 0), ("abc", 2), ("ab A", 2), ("{}", 0), ("-", 0)):
            with self.assertRaises(UnknownLetter) as caught:
                Machine.only("ab", text)
            self.assertEqual(caught.exception.position, position)


class Mapped(unittest.TestCase):
    def test_by_the_old_answers(self):
        choices = [True, False, "red", "green", "True", "x", ""]
        for random, letters, rows, answers in some_machines(89, 300):
            machine = Machine(letters, rows, answers)
            before = [machine.rows(), machine.answers()]
            into = {old: random.choice(choices) for old in choices if random.random() < 0.6}
            given = dict(into)
            made = mapped(machine, into)
            self.assertEqual([into, machine.rows(), machine.answers()], [given] + before)
            self.assertEqual(made.letters, letters)
            for text in texts_up_to(letters, 4):
                old = walked(letters, rows, answers, text)
                wanted = into[old] if old in into else old
                self.assertIs(type(made.answer(text)), type(wanted))
                self.assertEqual(made.answer(text), wanted)
            check_least(self, made)
            self.assertEqual(mapped(answers=into, machine=machine), made)
            into.clear()
            self.assertEqual(mapped(machine, given), made)

    def test_known_answers(self):
        machine = Machine.only("ab", "a")
        self.assertEqual(mapped(machine, {}), machine)
        self.assertEqual(mapped(machine, {True: False}), Machine.never("ab"))
        self.assertEqual(mapped(machine, {True: False, False: True}), ~machine)
        self.assertEqual(mapped(machine, {True: "yes", "no": "x"}).answers(), [False, "yes", False])


class Equal(unittest.TestCase):
    def check(self, one, other, wanted):
        self.assertIs(one == other, wanted)
        self.assertIs(other == one, wanted)
        self.assertIs(one != other, not wanted)
        self.assertIs(other != one, not wanted)

    def test_the_same_with_other_rooms(self):
        for random, letters, rows, answers in some_machines(90, 200):
            machine = Machine(letters, rows, answers)
            names = list(range(1, len(rows)))
            random.shuffle(names)
            names = [0] + names
            moved = [None] * len(rows)
            told = [None] * len(rows)
            for room, row in enumerate(rows):
                moved[names[room]] = [names[target] for target in row]
                told[names[room]] = answers[room]
            self.check(machine, Machine(letters, moved, told), True)
            self.check(machine, Machine(letters, machine.rows(), machine.answers()), True)

    def test_a_changed_answer(self):
        for random, letters, rows, answers in some_machines(91, 200):
            machine = Machine(letters, rows, answers)
            room = random.randrange(len(machine))
            told = machine.answers()
            told[room] = "changed"
            self.check(machine, Machine(letters, machine.rows(), told), False)

    def test_equal_if_and_only_if_the_answers_are(self):
        random = Random(92)
        for _ in range(1500):
            one, other = some_rooms(random, "ab", 2), some_rooms(random, "ab", 2)
            same = all(walked("ab", *one, text) == walked("ab", *other, text) for text in texts_up_to("ab", 6))
            self.check(Machine("ab", *one), Machine("ab", *other), same)

    def test_other_letters_and_other_values(self):
        for letters, others in (("ab", "ba"), ("ab", "ac"), ("ab", "abc"), ("abc", "abcd")):
            self.check(Machine.always(letters), Machine.always(others), False)
        machine = Machine.always("ab")
        for other in (True, None, 1, "ab", [[0, 0]], ("ab", [[0, 0]], [True]), object(), machine.rows()):
            self.check(machine, other, False)
        self.check(mapped(machine, {True: "True"}), machine, False)


if __name__ == "__main__":
    unittest.main()
