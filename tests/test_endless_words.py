"""[7]: comparisons for texts that follow the word which leaves them undecided, and for texts that leave it."""

import unittest
from random import Random

from ownfill.comparing import comparison, equal_texts
from tests.models import check_least, endless_word, model_word, some_turn
from tests.samples import ALL_LETTERS, model_fill, model_turned, some_items, some_text, template_of


def inverse(letters, turn):
    return "".join(letters[turn.index(letter)] for letter in letters)


def times(letters, turn):
    many, now = 1, turn
    while now != letters:
        many, now = many + 1, model_turned(letters, turn, now)
    return many


def fixed_letters(items):
    return sum(kind == "letter" for kind, _ in items)


def leading_pairs(seed, many, most=2, rest=3):
    """Two rows of items, one with a blank in front, the other with some letters and a blank; with start and turn."""
    random = Random(seed)
    for at in range(many):
        letters = ALL_LETTERS[at % len(ALL_LETTERS)]
        first, second = random.choice([letters, some_turn(random, letters)]), some_turn(random, letters)
        start = "".join(random.choice(letters) for _ in range(random.randint(1, most)))
        more = some_items(random, letters, rest)
        other = random.choice([some_items(random, letters, rest), list(more)])
        if random.random() < 0.4:
            more = more + [("letter", letter) for letter in start]
        one = [("blank", first)] + more
        other = [("letter", letter) for letter in start] + [("blank", second)] + other
        back = inverse(letters, first)
        yield random, letters, one, other, model_turned(letters, back, start), model_turned(letters, back, second)


class Following(unittest.TestCase):
    def check(self, machine, letters, one, other, texts):
        for text in texts:
            filled = model_fill(letters, one, text), model_fill(letters, other, text)
            self.assertEqual(machine.answer(text), model_word(letters, *filled), (letters, one, other, text))

    def check_both(self, letters, one, other, texts):
        for first, second in ((one, other), (other, one)):
            machine = comparison(template_of(letters, first), template_of(letters, second))
            self.check(machine, letters, first, second, texts)
            check_least(self, machine)

    def near(self, random, letters, word):
        """Beginnings of a word, the same changed at some place, and longer ones."""
        texts = [word[:size] for size in range(len(word) + 1)]
        for text in list(texts):
            if text:
                place = random.randrange(len(text))
                texts.append(text[:place] + random.choice(letters) + text[place + 1:])
            texts.append(text + some_text(random, letters, 4))
        return texts

    def test_a_blank_against_one_or_two_letters_and_a_blank(self):
        for random, letters, one, other, start, turn in leading_pairs(71, 400):
            word = endless_word(letters, start, turn, 60)
            self.check_both(letters, one, other, self.near(random, letters, word))

    def test_a_blank_against_up_to_twelve_letters_and_a_blank(self):
        for random, letters, one, other, start, turn in leading_pairs(72, 150, most=12):
            word = endless_word(letters, start, turn, 110)
            self.check_both(letters, one, other, self.near(random, letters, word)[::3])

    def test_a_blank_against_letters_alone(self):
        random = Random(73)
        for at in range(400):
            letters = ALL_LETTERS[at % len(ALL_LETTERS)]
            turn = some_turn(random, letters)
            word = "".join(random.choice(letters) for _ in range(random.randint(1, 12)))
            one = [("blank", turn)] + some_items(random, letters, 3)
            texts = self.near(random, letters, model_turned(letters, inverse(letters, turn), word))
            self.check_both(letters, one, [("letter", letter) for letter in word], texts)

    def test_two_blanks_with_different_turns(self):
        random = Random(74)
        for at in range(500):
            letters = ["abc", "abcd", "dacb", "cab"][at % 4]
            start = some_items(random, letters, 2)
            rows = [start + [("blank", some_turn(random, letters))] + some_items(random, letters, 4) for _ in "12"]
            if random.random() < 0.5:
                more = some_turn(random, letters)
                rows[1] = rows[0][:-2] + [("blank", more)] + rows[0][-1:]
            texts = [some_text(random, letters, 12) for _ in range(20)]
            for few in ("".join(random.sample(letters, random.randint(1, 2))) for _ in range(8)):
                texts += [some_text(random, few, 12) for _ in range(4)]
                texts += [some_text(random, few, 11) + random.choice(letters) + some_text(random, few, 4)]
            self.check_both(letters, *rows, texts)

    def test_three_turns_that_keep_fewer_and_fewer_letters(self):
        letters = "abcd"
        rows = [[("blank", turn) for turn in turns] for turns in (("abcd", "abcd", "abcd"), ("abdc", "acbd", "bacd"))]
        texts = [head + tail for head in ("", "a", "ab", "abc", "ba", "aa", "abcd", "dcba", "c", "d", "cd")
                 for tail in ("", "a", "b", "c", "d", "aba", "abc", "cad")]
        self.check_both(letters, rows[0], rows[1], texts)
        self.check_both(letters, rows[0] + [("letter", "a")], rows[1] + [("blank", letters)], texts)

    def test_a_template_that_goes_on(self):
        random = Random(75)
        for at in range(400):
            letters = ALL_LETTERS[at % len(ALL_LETTERS)]
            one = some_items(random, letters, 4)
            more = []
            for _ in range(random.randint(1, 3)):
                more += random.choice([[("blank", some_turn(random, letters))], [("letter", random.choice(letters))],
                                       [("blank", letters)]])
            other = one + more
            if random.random() < 0.5:
                other = more + one
            if random.random() < 0.2:
                one = [item for item in one if item[0] == "letter"]
            pair = random.choice(letters) + random.choice(letters)
            texts = [random.choice(letters) * size for size in range(8)]
            texts += [(pair * 10)[:size] for size in range(16)]
            fixed = "".join(letter for kind, letter in more if kind == "letter") or pair
            texts += [endless_word(letters, fixed, some_turn(random, letters), size) for size in range(30)]
            self.check_both(letters, one, other, texts)

    def test_equal_texts_are_beginnings_of_the_word(self):
        for random, letters, one, other, start, turn in leading_pairs(76, 300):
            machine = equal_texts(template_of(letters, one), template_of(letters, other))
            for text in machine.texts(True, many=12):
                self.assertEqual(endless_word(letters, start, turn, len(text)), text)
        one, other = [("blank", "ab"), ("letter", "a")], [("letter", "a"), ("blank", "ab")]
        found = list(equal_texts(template_of("ab", one), template_of("ab", other)).texts(True, many=12))
        self.assertEqual(found, ["a" * size for size in range(12)])

    def test_the_answers_repeat_with_the_period(self):
        for random, letters, one, other, start, turn in leading_pairs(77, 300, most=4):
            period = len(start) * times(letters, turn)
            since = fixed_letters(one) + fixed_letters(other) + period
            word = endless_word(letters, start, turn, since + 4 * period)
            machine = comparison(template_of(letters, one), template_of(letters, other))
            answers = [machine.answer(word[:size]) for size in range(len(word) + 1)]
            self.assertEqual(answers[since:-period], answers[since + period:])
            self.check(machine, letters, one, other, [word[:size] for size in range(since, len(word) + 1)])


if __name__ == "__main__":
    unittest.main()
