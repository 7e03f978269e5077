"""[8]: the texts with an answer, in order, and how many there are."""

import inspect
import unittest
from random import Random

from ownfill.machines import Machine, mapped
from tests.models import SHORT, some_rooms, walked
from tests.samples import ALL_LETTERS, texts_up_to

MIXED = [True, False, "red", "True"]


def some_machines(seed, many):
    random = Random(seed)
    for at in range(many):
        letters = ALL_LETTERS[at % len(ALL_LETTERS)]
        rows, answers = some_rooms(random, letters, 6, words=random.choice([(True, False), MIXED]))
        yield random, letters, rows, answers


class Texts(unittest.TestCase):
    def test_against_a_list_of_short_texts(self):
        for random, letters, rows, answers in some_machines(101, 300):
            machine = Machine(letters, rows, answers)
            short = texts_up_to(letters, SHORT[len(letters)])
            for answer in MIXED + ["never"]:
                wanted = [text for text in short if walked(letters, rows, answers, text) == answer]
                for many in (0, 1, 2, 7, 10, 25, 100):
                    found = list(machine.texts(answer, many=many))
                    shown = [text for text in found if len(text) <= SHORT[len(letters)]]
                    self.assertEqual(shown, wanted[:many])
                    self.assertLessEqual(len(found), many)
                self.assertEqual(list(machine.texts(answer)), list(machine.texts(answer=answer, many=10)))
                least = machine.least_text(answer)
                self.assertEqual([least], (list(machine.texts(answer, many=1)) or [None]))
                self.assertEqual(machine.least_text(answer=answer), least)

    def test_all_that_is_found_has_the_answer_and_is_in_order(self):
        for random, letters, rows, answers in some_machines(102, 300):
            machine = Machine(letters, rows, answers)
            for answer in set(answers):
                found = list(machine.texts(answer, many=100))
                keys = [(len(text), [letters.index(letter) for letter in text]) for text in found]
                self.assertEqual(keys, sorted(keys))
                self.assertEqual(len(set(found)), len(found))
                self.assertTrue(all(walked(letters, rows, answers, text) == answer for text in found))
                if len(found) == 100:
                    longest = len(found[-1])
                    self.assertEqual(sum(len(text) < longest for text in found),
                                     sum(machine.count(answer, size) for size in range(longest)))
                else:
                    self.assertEqual(sum(machine.count(answer, size) for size in range(2 * len(rows) + 2)), len(found))

    def test_it_is_a_generator_that_ends(self):
        machine = Machine.only("ab", "abba")
        found = machine.texts(True)
        self.assertTrue(inspect.isgenerator(found))
        self.assertEqual(next(found), "abba")
        self.assertEqual(list(found), [])
        self.assertEqual(list(machine.texts("never", many=100)), [])
        self.assertIsNone(machine.least_text("never"))
        self.assertIsNone(Machine.never("ab").least_text(True))
        self.assertEqual(list(Machine.always("ba").texts(True, many=5)), ["", "b", "a", "bb", "ba"])
        with self.assertRaises(TypeError):
            machine.texts(True, 3)

    def test_texts_far_apart(self):
        rows = [[(room + 1) % 60] * 4 for room in range(60)]
        machine = Machine("abcd", rows, [room == 59 for room in range(60)])
        found = list(machine.texts(True, many=6))
        self.assertEqual(found, ["a" * 58 + end for end in ("a", "b", "c", "d")] + ["a" * 57 + "ba", "a" * 57 + "bb"])
        rows = [[(room + 1) % 60, 60] for room in range(60)] + [[60, 60]]
        machine = Machine("ab", rows, [room == 1 for room in range(61)])
        self.assertEqual(list(machine.texts(True, many=3)), ["a", "a" * 61, "a" * 121])

    def test_few_texts_of_many_lengths(self):
        machine = Machine.only("abc", "a") | Machine.only("abc", "cab" * 20) | Machine.only("abc", "")
        self.assertEqual(list(machine.texts(True, many=100)), ["", "a", "cab" * 20])
        self.assertEqual(machine.least_text(False), "b")

    def test_more_than_ten(self):
        self.assertEqual(len(list(Machine.always("ab").texts(True))), 10)
        self.assertEqual(len(list(Machine.always("ab").texts(True, many=100))), 100)


class Count(unittest.TestCase):
    def test_by_going_through_all_texts(self):
        for random, letters, rows, answers in some_machines(103, 120):
            machine = Machine(letters, rows, answers)
            told = {}
            for text in texts_up_to(letters, {2: 6, 3: 6, 4: 5}[len(letters)]):
                key = (len(text), walked(letters, rows, answers, text))
                told[key] = told.get(key, 0) + 1
            for size in range({2: 7, 3: 7, 4: 6}[len(letters)]):
                for answer in MIXED + ["never"]:
                    self.assertEqual(machine.count(answer, size), told.get((size, answer), 0))

    def test_great_lengths_by_an_own_table(self):
        for random, letters, rows, answers in some_machines(104, 24):
            machine = Machine(letters, rows, answers)
            ways = [1] + [0] * (len(rows) - 1)
            for size in range(1001):
                if size in (0, 7, 50, 333, 999, 1000):
                    for answer in MIXED + ["never"]:
                        wanted = sum(many for many, told in zip(ways, answers) if told == answer)
                        self.assertEqual(machine.count(size=size, answer=answer), wanted)
                further = [0] * len(rows)
                for room, row in enumerate(rows):
                    for target in row:
                        further[target] += ways[room]
                ways = further

    def test_known_answers(self):
        self.assertEqual(Machine.always("abc").count(True, 1000), 3 ** 1000)
        self.assertEqual(Machine.only("ab", "ab").count(True, 2), 1)
        self.assertEqual(Machine.only("ab", "ab").count(False, 2), 3)
        self.assertEqual(Machine.never("ab").count(True, 0), 0)
        self.assertEqual(mapped(Machine.never("ab"), {False: "x"}).count("x", 3), 8)


if __name__ == "__main__":
    unittest.main()
