"""[10]: for which texts conditions hold: condition_machine and condition_holds."""

import unittest
from random import Random

from ownfill.conditions import condition_holds, condition_machine, parse_condition
from ownfill.errors import UnknownLetter, UnknownName
from ownfill.machines import Machine
from tests.models import SHORT, check_least, model_names, some_condition
from tests.samples import ALL_LETTERS, some_text, texts_up_to


def some_conditions(seed, many, deep=2):
    random = Random(seed)
    for at in range(many):
        letters = ALL_LETTERS[at % len(ALL_LETTERS)]
        yield (random, letters, *some_condition(random, letters, deep))


class Truth(unittest.TestCase):
    def test_all_short_texts_by_an_own_evaluation(self):
        for random, letters, condition, holds in some_conditions(21, 600):
            machine = condition_machine(letters, condition)
            self.assertIsInstance(machine, Machine)
            self.assertEqual(machine.letters, letters)
            texts = texts_up_to(letters, SHORT[len(letters)] - 2) + [some_text(random, letters, 70) for _ in range(6)]
            for text in texts:
                wanted = holds(text)
                self.assertIs(machine.answer(text), wanted, (letters, condition, text))
                self.assertIs(condition_holds(letters, condition, text), wanted, (letters, condition, text))
            if len(machine) < 400:
                check_least(self, machine)

    def test_arguments_by_name_and_equal_calls(self):
        for random, letters, condition, _ in some_conditions(22, 60):
            machine = condition_machine(letters, condition)
            self.assertEqual(condition_machine(condition=condition, letters=letters), machine)
            text = some_text(random, letters)
            self.assertIs(condition_holds(text=text, condition=condition, letters=letters), machine.answer(text))

    def test_rules_of_truths(self):
        for random, letters, one, _ in some_conditions(23, 150, 1):
            other, _ = some_condition(random, letters, 1)
            first, second = condition_machine(letters, one), condition_machine(letters, other)
            self.assertEqual(condition_machine(letters, ("not", one)), ~first)
            self.assertEqual(condition_machine(letters, ("and", one, other)), first & second)
            self.assertEqual(condition_machine(letters, ("or", one, other)), first | second)
            self.assertEqual(condition_machine(letters, ("not", ("not", one))), first)
            self.assertEqual(condition_machine(letters, ("not", ("and", one, other))),
                             condition_machine(letters, ("or", ("not", one), ("not", other))))
            self.assertEqual(condition_machine(letters, ("or", one, ("not", one))), Machine.always(letters))

    def test_known_answers(self):
        def shown(text, many=4):
            return list(condition_machine("ab", parse_condition("ab", text)).texts(True, many=many))

        self.assertEqual(shown("length(2,3)"), ["aa", "ab", "ba", "bb"])
        self.assertEqual(shown("(length(0,3) and match(a*))"), ["", "aaa", "aaaaaa", "aaaaaaaaa"])
        self.assertEqual(shown("same(ab{},{}ab)"), ["", "ab", "abab", "ababab"])
        self.assertEqual(shown("(begins({},abb) and not ends({},abb))"), ["a", "ab"])
        self.assertEqual(shown("less({},{ba})", 3), ["a", "aa", "ab"])
        self.assertEqual(len(condition_machine("ab", ("length", 59, 60))), 60)
        self.assertEqual(condition_machine("ab", ("length", 0, 1)), Machine.always("ab"))
        self.assertIs(condition_holds("ab", ("length", 0, 60), "ab" * 30), True)
        self.assertIs(condition_holds("ab", ("ends", "b{}", "a{ba}b{}"), "ab" * 150), True)


class Errors(unittest.TestCase):
    def test_first_name_before_unknown_letters(self):
        random = Random(24)
        for at in range(600):
            letters = ALL_LETTERS[at % len(ALL_LETTERS)]
            condition, _ = some_condition(random, letters, 3, ["one", "two", "three"])
            names = model_names(condition)
            if names:
                for ask in (lambda: condition_machine(letters, condition),
                            lambda: condition_holds(letters, condition, "?"),
                            lambda: condition_holds(letters, condition, "")):
                    with self.assertRaises(UnknownName) as caught:
                        ask()
                    self.assertEqual(caught.exception.name, names[0])

    def test_unknown_letter_whatever_the_condition(self):
        for random, letters, condition, _ in some_conditions(25, 200):
            text = some_text(random, letters)
            place = random.randint(0, len(text))
            sign = random.choice([sign for sign in "efgA0 -{}\u00e4" if sign not in letters])
            with self.assertRaises(UnknownLetter) as caught:
                condition_holds(letters, condition, text[:place] + sign + text[place:] + "?")
            self.assertEqual(caught.exception.position, place)

    def test_a_name_behind_what_is_already_decided(self):
        condition = parse_condition("ab", "(match() or (named b and named a))")
        with self.assertRaises(UnknownName) as caught:
            condition_holds("ab", condition, "")
        self.assertEqual(caught.exception.name, "b")
        with self.assertRaises(UnknownLetter):
            condition_holds("ab", ("or", ("length", 0, 1), ("match", "a")), "abc")


if __name__ == "__main__":
    unittest.main()
