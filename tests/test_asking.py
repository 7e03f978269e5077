"""[17]: one question."""

import unittest
from random import Random

from ownfill.asking import question, read_template
from ownfill.errors import InvalidLetters, NoTemplate, UnknownLetter
from ownfill.templates import Template
from tests.samples import (ALL_LETTERS, BAD_LETTERS, all_turns, model_fill, model_text, model_turned, some_items,
                           texts_up_to)


def own_question(letters, size):
    return "".join(letter for letter in letters for _ in range(size + 1))


def fixed_count(items):
    return len([kind for kind, _ in items if kind == "letter"])


class Asking(unittest.TestCase):
    def test_questions(self):
        for letters in ALL_LETTERS:
            for size in range(21):
                self.assertEqual(question(letters, size), own_question(letters, size))
        self.assertEqual(question(size=1, letters="ab"), "aabb")

    def test_templates_are_read(self):
        random = Random(131)
        for at in range(1500):
            letters = ALL_LETTERS[at % len(ALL_LETTERS)]
            items = some_items(random, letters, 7)
            size = fixed_count(items) + random.choice([0, 0, 1, 3])
            answer = model_fill(letters, items, own_question(letters, size))
            found = read_template(letters, size, answer)
            self.assertIs(type(found), Template)
            self.assertEqual(found.text(), model_text(letters, items))
            self.assertEqual(read_template(answer=answer, size=size, letters=letters), found)

    def test_all_short_answers(self):
        for letters, size, most in (("ab", 0, 8), ("ba", 1, 10), ("ab", 2, 12), ("abc", 0, 6), ("abc", 1, 7)):
            found = 0
            for answer in texts_up_to(letters, most):
                found += self.check(letters, size, answer)
            self.assertGreater(found, 2)

    def check(self, letters, size, answer):
        """The template if its filled question is the answer and it has at most size letters, otherwise NoTemplate."""
        wanted = own_template(letters, size, answer)
        if wanted is None:
            with self.assertRaises(NoTemplate):
                read_template(letters, size, answer)
            return False
        self.assertEqual(read_template(letters, size, answer).text(), model_text(letters, wanted))
        self.assertEqual(model_fill(letters, wanted, own_question(letters, size)), answer)
        return True

    def test_bent_answers(self):
        random = Random(132)
        seen = [0, 0]
        for at in range(600):
            letters = ALL_LETTERS[at % len(ALL_LETTERS)]
            items = some_items(random, letters, 5)
            size = max(0, fixed_count(items) + random.choice([-1, 0, 0, 1, 2]))
            answer = model_fill(letters, items, own_question(letters, size))
            for _ in range(6):
                place = random.randint(0, len(answer))
                letter = random.choice(letters)
                for bent in (answer[:place] + letter + answer[place:], answer[:place] + answer[place + 1:],
                             answer[:place] + letter + answer[place + 1:]):
                    seen[self.check(letters, size, bent)] += 1
        self.assertGreater(min(seen), 500)

    def test_other_templates_give_other_answers(self):
        for letters, size in (("ab", 1), ("ba", 2)):
            blanks = [("blank", turn) for turn in (letters, letters[::-1])]
            rows = [[]]
            answers = {}
            for _ in range(3):
                rows = [row + [item] for row in rows for item in blanks + [("letter", letter) for letter in letters]]
                for row in rows:
                    if fixed_count(row) <= size:
                        answers.setdefault(model_fill(letters, row, own_question(letters, size)), []).append(row)
            self.assertEqual({len(row) for row in answers.values()}, {1})

    def test_known_ones(self):
        self.assertEqual(read_template("ab", 0, "").text(), "-")
        self.assertEqual(read_template("ab", 20, "").text(), "-")
        self.assertEqual(read_template("ab", 1, "aaabb").text(), "a{}")
        self.assertEqual(read_template("ab", 1, "aabba").text(), "{}a")
        self.assertEqual(read_template("ab", 1, "bbaaaabb").text(), "{ba}{}")
        for size, answer in ((0, "a"), (1, "ab"), (0, "aab"), (1, "aabbab"), (2, "aabb")):
            with self.assertRaises(NoTemplate):
                read_template("ab", size, answer)

    def test_in_order(self):
        for letters in BAD_LETTERS:
            with self.subTest(letters), self.assertRaises(InvalidLetters):
                question(letters, 3)
            with self.subTest(letters), self.assertRaises(InvalidLetters):
                read_template(letters, 3, "??")
        for answer, position in (("aax", 2), ("x", 0), ("abababababc", 10)):
            with self.assertRaises(UnknownLetter) as caught:
                read_template("ab", 0, answer)
            self.assertEqual(caught.exception.position, position)


def own_template(letters, size, answer):
    """The items of the template, by trying at each place all turns and a fixed letter; None if there is none."""
    asked = own_question(letters, size)
    found = []

    def search(at, fixed, items):
        if at == len(answer):
            found.append(items)
            return
        for turn in all_turns(letters):
            if answer.startswith(model_turned(letters, turn, asked), at):
                search(at + len(asked), fixed, items + [("blank", turn)])
        if fixed < size:
            search(at + 1, fixed + 1, items + [("letter", answer[at])])

    search(0, 0, [])
    assert len(found) <= 1
    return found[0] if found else None


if __name__ == "__main__":
    unittest.main()
