"""[6]: two templates filled with the same text: difference, compared, and comparison for all short texts."""

import unittest
from random import Random

from ownfill.comparing import (begins_texts, compared, comparison, difference, ends_texts, equal_texts, less_texts)
from ownfill.errors import LettersDiffer, UnknownLetter
from ownfill.machines import Machine, mapped
from ownfill.templates import Template
from tests.models import SHORT, check_least, model_word, some_template
from tests.samples import ALL_LETTERS, model_fill, some_items, some_text, template_of, texts_up_to

EXCHANGED = {"equal": "equal", "shorter": "longer", "longer": "shorter", "less": "greater", "greater": "less"}
OTHER_LETTERS = [("ab", "ba"), ("ab", "abc"), ("abc", "ab"), ("abc", "abd")]


def some_pairs(seed, many, most=5):
    """Many pairs of templates: any two, equal ones, similar ones, and the same items from both sides."""
    random = Random(seed)
    for at in range(many):
        letters = ALL_LETTERS[at % len(ALL_LETTERS)]
        one = some_items(random, letters, most)
        other = random.choice([some_items(random, letters, most), list(one), one[::-1], one[1:] + one[:1],
                               one[:random.randint(0, most)], one + some_items(random, letters, 1)])
        if other and random.random() < 0.3:
            other[random.randrange(len(other))] = (some_items(random, letters, 9) or other)[0]
        yield random, letters, one, other


def model_difference(first, second):
    place = 0
    while first[place:place + 1] == second[place:place + 1]:
        if place == len(first):
            return None
        place += 1
    return (place, first[place] if place < len(first) else None, second[place] if place < len(second) else None)


class OneText(unittest.TestCase):
    def test_by_the_filled_texts(self):
        for random, letters, one, other in some_pairs(61, 2500):
            first, second = template_of(letters, one), template_of(letters, other)
            text = some_text(random, letters, 8)
            filled = model_fill(letters, one, text), model_fill(letters, other, text)
            found = difference(first, second, text)
            self.assertEqual(found, model_difference(*filled))
            self.assertIsInstance(found, (tuple, type(None)))
            self.assertEqual(difference(text=text, other=second, one=first), found)
            word = compared(first, second, text)
            self.assertEqual(word, model_word(letters, *filled))
            self.assertEqual(compared(text=text, other=second, one=first), word)
            self.assertEqual(compared(second, first, text), EXCHANGED[word])

    def test_known_answers(self):
        one, other = Template("ab", "a{}"), Template("ab", "{}a")
        self.assertEqual([difference(one, other, text) for text in ("", "a", "ab", "ba")],
                         [None, None, (1, "a", "b"), (0, "a", "b")])
        self.assertEqual([compared(one, other, text) for text in ("", "ab", "ba")], ["equal", "less", "less"])
        self.assertEqual(difference(Template("ab", "a"), Template("ab", "ab"), ""), (1, None, "b"))
        self.assertEqual(difference(Template("ab", "{}{}"), Template("ab", "{}"), "ab"), (2, "a", None))
        self.assertEqual(compared(Template("ab", "-"), Template("ab", "{}"), "b"), "shorter")
        self.assertEqual(compared(Template("ab", "{}b"), Template("ab", "{}"), "b"), "longer")
        self.assertEqual(compared(Template("ba", "a"), Template("ba", "bb"), ""), "greater")
        self.assertEqual(compared(Template("ab", "-"), Template("ab", "-"), "ab"), "equal")

    def test_unknown_letter(self):
        for random, letters, one, other in some_pairs(62, 200):
            text = some_text(random, letters)
            place = random.randint(0, len(text))
            sign = random.choice([sign for sign in "efgA0 -{}\u00e4" if sign not in letters])
            for ask in (difference, compared):
                with self.assertRaises(UnknownLetter) as caught:
                    ask(template_of(letters, one), template_of(letters, other), text[:place] + sign + text[place:])
                self.assertEqual(caught.exception.position, place)

    def test_other_letters_before_unknown_letters(self):
        for letters, others in OTHER_LETTERS:
            for text in ("-", "{}", "a{}b"):
                for ask in (difference, compared):
                    for asked in ("", "a", "?", "c"):
                        with self.assertRaises(LettersDiffer):
                            ask(Template(letters, text), Template(others, text), asked)


class AllTexts(unittest.TestCase):
    def test_by_filling_with_all_short_texts(self):
        for random, letters, one, other in some_pairs(63, 700):
            first, second = template_of(letters, one), template_of(letters, other)
            machine = comparison(first, second)
            self.assertIsInstance(machine, Machine)
            self.assertEqual(machine.letters, letters)
            for text in texts_up_to(letters, SHORT[len(letters)] - 1):
                self.assertEqual(machine.answer(text), model_word(letters, model_fill(letters, one, text),
                                                                  model_fill(letters, other, text)))
            check_least(self, machine)
            self.assertEqual(comparison(other=second, one=first), machine)
            self.assertEqual([first, second], [template_of(letters, one), template_of(letters, other)])

    def test_in_the_other_direction_and_with_itself(self):
        for random, letters, one, other in some_pairs(64, 500):
            first, second = template_of(letters, one), template_of(letters, other)
            self.assertEqual(comparison(second, first), mapped(comparison(first, second), EXCHANGED))
            self.assertEqual(comparison(first, first), Machine(letters, [[0] * len(letters)], ["equal"]))

    def test_with_a_common_beginning(self):
        for random, letters, one, other in some_pairs(65, 500):
            first, second = template_of(letters, one), template_of(letters, other)
            more = some_template(random, letters)
            self.assertEqual(comparison(more + first, more + second), comparison(first, second))
            for text in (some_text(random, letters, 30) for _ in range(5)):
                self.assertEqual(comparison(first + more, second + more).answer(text),
                                 compared(first + more, second + more, text))
            if first.blanks == second.blanks and first.size == second.size:
                self.assertEqual(comparison(first + more, second + more), comparison(first, second))

    def test_known_machines(self):
        one, other = Template("ab", "ab{}"), Template("ab", "{}ab")
        self.assertEqual(comparison(one, other).answer("b"), "less")
        self.assertEqual(list(equal_texts(one, other).texts(True, many=4)), ["", "ab", "abab", "ababab"])
        machine = comparison(Template("ab", "{}"), Template("ab", "-"))
        self.assertEqual([machine.rows(), machine.answers()], [[[1, 1], [1, 1]], ["equal", "longer"]])
        machine = comparison(Template("ab", "{}a"), Template("ab", "{}b{}"))
        self.assertEqual([machine.rows(), machine.answers()], [[[0, 0]], ["less"]])
        machine = comparison(Template("ab", "{ba}"), Template("ab", "ab"))
        self.assertEqual([machine.answer(text) for text in ("", "b", "ba", "baa", "a", "bb")],
                         ["shorter", "shorter", "equal", "longer", "greater", "less"])

    def test_other_letters(self):
        for letters, others in OTHER_LETTERS:
            for text in ("-", "{}", "a{}b"):
                for ask in (comparison, equal_texts, begins_texts, ends_texts, less_texts):
                    with self.assertRaises(LettersDiffer):
                        ask(Template(letters, text), Template(others, text))


if __name__ == "__main__":
    unittest.main()
