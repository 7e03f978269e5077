"""[10] and [3]: the texts for which two templates are equal, begin, end, or come before one another."""

import unittest
from random import Random

from ownfill.comparing import begins_texts, comparison, ends_texts, equal_texts, less_texts
from ownfill.machines import Machine, mapped
from ownfill.templates import Template
from tests.models import SHORT, check_least, endless_word, model_word, some_turn
from tests.samples import (ALL_LETTERS, model_fill, model_turned, model_turned_items, some_items, some_text,
                           template_of, texts_up_to)
from tests.test_comparing import some_pairs
from tests.test_endless_words import leading_pairs

ASKED = {
    equal_texts: lambda letters, first, second: first == second,
    begins_texts: lambda letters, first, second: second.startswith(first),
    ends_texts: lambda letters, first, second: second.endswith(first),
    less_texts: lambda letters, first, second: model_word(letters, first, second) in ("less", "shorter"),
}


class Asked(unittest.TestCase):
    def check(self, letters, one, other, texts):
        first, second = template_of(letters, one), template_of(letters, other)
        for ask, wanted in ASKED.items():
            machine = ask(first, second)
            self.assertIsInstance(machine, Machine)
            self.assertEqual(machine.letters, letters)
            check_least(self, machine)
            self.assertEqual(ask(other=second, one=first), machine)
            for text in texts:
                filled = model_fill(letters, one, text), model_fill(letters, other, text)
                self.assertIs(machine.answer(text), wanted(letters, *filled), (ask.__name__, letters, one, other, text))
        self.assertEqual([first, second], [template_of(letters, one), template_of(letters, other)])

    def test_all_short_texts(self):
        for random, letters, one, other in some_pairs(105, 350):
            self.check(letters, one, other, texts_up_to(letters, SHORT[len(letters)] - 2))

    def test_texts_that_follow_the_endless_word(self):
        for random, letters, one, other, start, turn in leading_pairs(106, 160):
            word = endless_word(letters, start, turn, 40)
            texts = [word[:size] for size in range(41)]
            texts += [text + random.choice(letters) for text in texts[::3]]
            self.check(letters, one, other, texts)
            backwards = [text[::-1] for text in texts]
            self.check(letters, one[::-1], other[::-1], backwards)
            self.check(letters, other[::-1], one[::-1], backwards)

    def test_long_texts(self):
        random = Random(107)
        for at in range(100):
            letters = ALL_LETTERS[at % len(ALL_LETTERS)]
            one, other = some_items(random, letters, 4), some_items(random, letters, 4)
            self.check(letters, one, other, [some_text(random, letters, 40) for _ in range(10)])

    def test_known_answers(self):
        one, other = Template("ab", "ab{}"), Template("ab", "{}ab")
        self.assertEqual(list(equal_texts(one, other).texts(True, many=4)), ["", "ab", "abab", "ababab"])
        blank, fixed = Template("ab", "{}"), Template("ab", "aba")
        self.assertEqual(list(begins_texts(blank, fixed).texts(True)), ["", "a", "ab", "aba"])
        self.assertEqual(list(ends_texts(blank, fixed).texts(True)), ["", "a", "ba", "aba"])
        self.assertEqual(list(begins_texts(fixed, blank).texts(True, many=3)), ["aba", "abaa", "abab"])
        self.assertEqual(list(ends_texts(fixed, blank).texts(True, many=3)), ["aba", "aaba", "baba"])
        self.assertEqual(list(less_texts(blank, Template("ab", "ab")).texts(True, many=5)), ["", "a", "aa", "aaa", "aab"])
        self.assertEqual(less_texts(blank, blank), Machine.never("ab"))
        self.assertEqual(begins_texts(blank, blank), Machine.always("ab"))


class Order(unittest.TestCase):
    """[3]: what depends on the order of the letters, and what on their names alone."""

    ASKS = [comparison, *ASKED]

    def test_other_letters_in_the_same_order(self):
        for random, letters, one, other in some_pairs(31, 250):
            others = "".join(sorted(random.sample("kmpqtz", len(letters)), key=lambda _: random.random()))
            into = dict(zip(letters, others))
            rows = [[(kind, "".join(into[letter] for letter in what)) for kind, what in row] for row in (one, other)]
            for ask in self.ASKS:
                machine = ask(template_of(letters, one), template_of(letters, other))
                moved = ask(template_of(others, rows[0]), template_of(others, rows[1]))
                self.assertEqual([moved.rows(), moved.answers()], [machine.rows(), machine.answers()])
                self.assertEqual(moved.letters, others)

    def backwards(self, letters, machine):
        """The machine with the same answers that has its letters in the opposite order."""
        return Machine(letters[::-1], [row[::-1] for row in machine.rows()], machine.answers())

    def test_letters_in_the_opposite_order(self):
        for random, letters, one, other in some_pairs(32, 250):
            others = letters[::-1]
            rows = [[(kind, what if kind == "letter" else what[::-1]) for kind, what in row] for row in (one, other)]
            pair = template_of(letters, one), template_of(letters, other)
            moved = template_of(others, rows[0]), template_of(others, rows[1])
            for text in (some_text(random, letters, 6) for _ in range(3)):
                self.assertEqual([made.fill(text) for made in pair], [made.fill(text) for made in moved])
            exchanged = mapped(comparison(*pair), {"less": "greater", "greater": "less"})
            self.assertEqual(comparison(*moved), self.backwards(letters, exchanged))
            for ask in (equal_texts, begins_texts, ends_texts):
                self.assertEqual(ask(*moved), self.backwards(letters, ask(*pair)))
            truths = {"less": False, "shorter": True, "longer": False, "greater": True, "equal": False}
            self.assertEqual(less_texts(*moved), self.backwards(letters, mapped(comparison(*pair), truths)))

    def test_turned_templates_are_equal_for_the_same_texts(self):
        for random, letters, one, other in some_pairs(33, 150):
            turn = some_turn(random, letters)
            self.assertEqual(model_turned(letters, turn, letters), turn)
            rows = [model_turned_items(letters, turn, row) for row in (one, other)]
            for ask in (equal_texts, begins_texts, ends_texts):
                self.assertEqual(ask(template_of(letters, rows[0]), template_of(letters, rows[1])),
                                 ask(template_of(letters, one), template_of(letters, other)))


if __name__ == "__main__":
    unittest.main()
