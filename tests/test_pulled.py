"""[8], [6]: machines pulled through templates."""

import unittest
from random import Random

from ownfill.comparing import comparison
from ownfill.errors import LettersDiffer
from ownfill.machines import Machine
from ownfill.templates import Template
from ownfill.values import pulled
from tests.models import SHORT, check_least, some_rooms, walked
from tests.samples import ALL_LETTERS, model_fill, model_text, some_items, template_of, texts_up_to


class Pulled(unittest.TestCase):
    def test_by_filling_and_walking(self):
        random = Random(51)
        for at in range(400):
            letters = ALL_LETTERS[at % len(ALL_LETTERS)]
            words = random.choice([(True, False), ("yes", "no", "so"), (True, "so")])
            rows, answers = some_rooms(random, letters, 3, words)
            machine = Machine(letters, rows, answers)
            items = some_items(random, letters, 5)
            template = template_of(letters, items)
            found = pulled(machine, template)
            self.assertIs(type(found), Machine)
            self.assertEqual(found.letters, letters)
            check_least(self, found)
            for text in texts_up_to(letters, SHORT[len(letters)]):
                self.assertEqual(found.answer(text), walked(letters, rows, answers, model_fill(letters, items, text)))
            self.assertEqual(pulled(template=template, machine=machine), found)
            self.assertEqual((machine, template.row()), (Machine(letters, rows, answers), [what for _, what in items]))

    def test_known_ones(self):
        ends_in_a = Machine("ab", [[1, 0], [1, 0]], [False, True])
        self.assertEqual(pulled(ends_in_a, Template("ab", "{}")), ends_in_a)
        self.assertEqual(pulled(ends_in_a, Template("ab", "{}a")), Machine.always("ab"))
        self.assertEqual(pulled(ends_in_a, Template("ab", "-")), Machine.never("ab"))
        self.assertEqual(pulled(ends_in_a, Template("ab", "a{ba}")), Machine("ab", [[1, 0], [1, 0]], [True, False])
                         & ~Machine.only("ab", "") | Machine.only("ab", ""))

    def test_one_behind_the_other(self):
        random = Random(52)
        for at in range(150):
            letters = ALL_LETTERS[at % len(ALL_LETTERS)]
            machine = Machine(letters, *some_rooms(random, letters, 3))
            one, other = (template_of(letters, some_items(random, letters, 3)) for _ in range(2))
            self.assertEqual(pulled(pulled(machine, one), other), pulled(machine, one.put(other)))

    def test_large_machines(self):
        rows = [[(room + 1) % 60] * 2 for room in range(60)]
        machine = Machine("ab", rows, [room == 7 for room in range(60)])
        found = pulled(machine, Template("ab", "{}a{ba}b{}"))
        self.assertEqual([size for size in range(60) if found.count(True, size)], [])
        found = pulled(machine, Template("ab", "{}a{ba}{}"))
        self.assertEqual([size for size in range(60) if found.count(True, size)], [2, 22, 42])

    def test_other_letters(self):
        for one, other in (("ab", "ba"), ("ab", "abc"), ("abc", "abd")):
            with self.assertRaises(LettersDiffer):
                pulled(Machine.always(one), Template(other, "{}"))

    def test_comparisons(self):
        random = Random(53)
        for at in range(300):
            letters = ALL_LETTERS[at % len(ALL_LETTERS)]
            one, other, third = (some_items(random, letters, 4) for _ in range(3))
            if random.random() < 0.4:
                other = one[:2] + other[:2]
            first, second, inner = (Template(letters, model_text(letters, items)) for items in (one, other, third))
            self.assertEqual(comparison(first.put(inner), second.put(inner)), pulled(comparison(first, second), inner))


if __name__ == "__main__":
    unittest.main()
