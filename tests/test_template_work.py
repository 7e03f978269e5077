"""[5]: what templates do: fill, length, put, turned, mirrored, + and ==."""

import unittest
from random import Random

from ownfill.errors import LettersDiffer, UnknownLetter
from ownfill.templates import Template
from ownfill.turns import undone
from tests.samples import (ALL_LETTERS, all_turns, model_fill, model_put, model_text, model_turned,
                           model_turned_items, some_cases, some_items, some_text, template_of)


class Fill(unittest.TestCase):
    def test_item_by_item_and_twice(self):
        for random, letters, items in some_cases(55, 1000):
            template = template_of(letters, items)
            for text in ("", some_text(random, letters)):
                wanted = model_fill(letters, items, text)
                self.assertEqual(template.fill(text), wanted)
                self.assertEqual(template.fill(text=text), wanted)
                self.assertEqual(template.length(len(text)), len(wanted))
            self.assertEqual(template.text(), model_text(letters, items))

    def test_known_answers(self):
        one = Template("ab", "a{}b{ba}")
        self.assertEqual([one.fill("aab"), one.fill(""), one.fill("b")], ["aaabbbba", "ab", "abba"])
        self.assertEqual(Template("ab", "-").fill("abba"), "")
        self.assertEqual(Template("abc", "{bca}").fill("abc"), "bca")
        self.assertEqual(Template("ba", "{ab}").fill("aab"), "bba")

    def test_unknown_letter_with_its_first_position(self):
        for random, letters, items in some_cases(56, 500):
            template = template_of(letters, items)
            text = some_text(random, letters)
            place = random.randint(0, len(text))
            sign = random.choice([sign for sign in "efgA0 -{}\u00e4" if sign not in letters])
            with self.assertRaises(UnknownLetter) as caught:
                template.fill(text[:place] + sign + text[place:] + "?")
            self.assertEqual(caught.exception.position, place)

    def test_unknown_letter_without_blanks(self):
        for text in ("-", "a", "abba"):
            with self.assertRaises(UnknownLetter) as caught:
                Template("ab", text).fill("ac")
            self.assertEqual(caught.exception.position, 1)

    def test_length_of_great_numbers(self):
        great = 10 ** 30 - 1
        one = Template("ab", "a{}b{ba}a")
        self.assertEqual([one.length(great), one.length(0), one.length(size=7)], [2 * great + 3, 3, 17])
        self.assertEqual(Template("ab", "-").length(great), 0)
        self.assertEqual(Template("ab", "bb").length(great), 2)


class Put(unittest.TestCase):
    def test_by_the_items_and_by_filled_texts(self):
        for random, letters, items in some_cases(57, 700):
            inner = some_items(random, letters)
            one, other = template_of(letters, items), template_of(letters, inner)
            both = one.put(other)
            self.assertEqual(both.row(), [what for _, what in model_put(letters, items, inner)])
            self.assertEqual(both.letters, letters)
            text = some_text(random, letters)
            self.assertEqual(both.fill(text), model_fill(letters, items, model_fill(letters, inner, text)))
            self.assertEqual(one.put(other=other), both)
            self.assertEqual([one.text(), other.text()], [model_text(letters, items), model_text(letters, inner)])

    def test_associative(self):
        for random, letters, items in some_cases(58, 200):
            one = template_of(letters, items)
            two = template_of(letters, some_items(random, letters, 4))
            three = template_of(letters, some_items(random, letters, 4))
            self.assertEqual(one.put(two).put(three), one.put(two.put(three)))

    def test_into_itself_and_with_nothing(self):
        one = Template("ab", "a{}b{ba}")
        self.assertEqual(one.put(one).text(), "aa{}b{ba}bb{ba}a{}")
        self.assertEqual(one.text(), "a{}b{ba}")
        self.assertEqual(one.put(Template("ab", "{}a")).text(), "a{}ab{ba}b")
        self.assertEqual(Template("ab", "{}{ba}").put(Template("ab", "-")).text(), "-")
        self.assertEqual(Template("ab", "-").put(one).text(), "-")
        self.assertEqual(Template("abc", "{bca}").put(Template("abc", "{bac}a")).text(), "{cba}b")

    def test_other_letters(self):
        for letters, others in (("ab", "ba"), ("ab", "abc"), ("abc", "ab"), ("abc", "abd")):
            one, other = Template(letters, "a{}"), Template(others, "a{}")
            with self.assertRaises(LettersDiffer):
                one.put(other)
            self.assertEqual([one.text(), other.text()], ["a{}", "a{}"])
        with self.assertRaises(LettersDiffer):
            Template("ab", "-").put(Template("ba", "-"))


class TurnedAndMirrored(unittest.TestCase):
    def test_turned_by_items_and_by_texts(self):
        for random, letters, items in some_cases(59, 700):
            template = template_of(letters, items)
            turn, more = random.choice(all_turns(letters)), random.choice(all_turns(letters))
            text = some_text(random, letters)
            made = template.turned(turn)
            self.assertEqual(made.row(), [what for _, what in model_turned_items(letters, turn, items)])
            self.assertEqual(made.fill(text), model_turned(letters, turn, model_fill(letters, items, text)))
            twice = template.turned(turn=turn).turned(turn=more)
            self.assertEqual(twice.fill(text), model_turned(letters, more, made.fill(text)))
            self.assertEqual(made.turned(undone(letters, turn)), template)
            self.assertEqual(template.turned(letters), template)
            self.assertEqual(template.text(), model_text(letters, items))

    def test_mirrored_by_items_and_by_texts(self):
        for random, letters, items in some_cases(60, 700):
            template = template_of(letters, items)
            text = some_text(random, letters)
            made = template.mirrored()
            self.assertEqual(made.row(), [what for _, what in items][::-1])
            self.assertEqual(made.letters, letters)
            self.assertEqual(made.fill(text[::-1]), template.fill(text)[::-1])
            self.assertEqual(made.mirrored(), template)
            self.assertEqual(template.text(), model_text(letters, items))

    def test_known_answers(self):
        one = Template("abc", "ab{}{bca}")
        self.assertEqual(one.turned("bac").text(), "ba{bac}{acb}")
        self.assertEqual(one.mirrored().text(), "{bca}{}ba")
        self.assertEqual([Template("ab", "-").turned("ba").text(), Template("ab", "-").mirrored().text()], ["-", "-"])


class Sum(unittest.TestCase):
    def test_by_the_items_and_by_texts(self):
        for random, letters, items in some_cases(61, 500):
            more = some_items(random, letters)
            one, other = template_of(letters, items), template_of(letters, more)
            both = one + other
            text = some_text(random, letters)
            self.assertIsInstance(both, Template)
            self.assertEqual(both.letters, letters)
            self.assertEqual(both.row(), [what for _, what in items + more])
            self.assertEqual(both.fill(text), one.fill(text) + other.fill(text))
            self.assertEqual([one.text(), other.text()], [model_text(letters, items), model_text(letters, more)])

    def test_parts_join_at_the_seam(self):
        self.assertEqual((Template("ab", "{}a") + Template("ab", "b{}")).parts(),
                         [("blank", "ab"), ("text", "ab"), ("blank", "ab")])
        empty = Template("ab", "-")
        self.assertEqual([(empty + empty).text(), (empty + Template("ab", "a")).text()], ["-", "a"])

    def test_adding_again_leaves_the_first_as_it_was(self):
        first = total = Template("ab", "a")
        total += Template("ab", "{}")
        self.assertEqual([first.text(), total.text()], ["a", "a{}"])

    def test_other_letters(self):
        for letters, others in (("ab", "ba"), ("ab", "abc"), ("abc", "ab"), ("abc", "abd")):
            with self.assertRaises(LettersDiffer):
                Template(letters, "a{}") + Template(others, "a{}")
            with self.assertRaises(LettersDiffer):
                Template(letters, "-") + Template(others, "-")

    def test_other_values(self):
        for other in ("a", 1, None, ["a"]):
            with self.assertRaises(TypeError):
                Template("ab", "a") + other


class Equal(unittest.TestCase):
    def check(self, one, other, wanted):
        self.assertIs(one == other, wanted)
        self.assertIs(other == one, wanted)
        self.assertIs(one != other, not wanted)
        self.assertIs(other != one, not wanted)

    def test_equal_similar_and_other_items(self):
        random = Random(62)
        for _ in range(2000):
            letters = random.choice(["ab", "ba", "abc"])
            items = some_items(random, letters, 3)
            more = list(items)
            if more and random.random() < 0.5:
                more[random.randrange(len(more))] = random.choice(
                    [("letter", sign) for sign in letters] + [("blank", turn) for turn in all_turns(letters)])
            elif random.random() < 0.5:
                more = some_items(random, letters, 3)
            one = Template(letters, model_text(letters, items, long=lambda: random.random() < 0.5))
            other = Template(letters, model_text(letters, more, long=lambda: random.random() < 0.5))
            self.check(one, other, items == more)

    def test_other_letters(self):
        for text in ("-", "a", "ab", "{}", "a{}b"):
            self.check(Template("ab", text), Template("ab", text), True)
            for letters in ("ba", "abc", "bac", "abcd"):
                self.check(Template("ab", text), Template(letters, text), False)

    def test_both_ways_of_a_plain_blank(self):
        self.check(Template("ab", "a{}"), Template("ab", "a{ab}"), True)
        self.check(Template("ab", "a{}"), Template("ab", "a{ba}"), False)
        self.check(Template("ab", "{ab}"), Template("ab", "ab"), False)

    def test_other_values(self):
        for letters in ALL_LETTERS:
            template = Template(letters, "{}" + letters)
            for other in (template.text(), template.row(), tuple(template.row()), template.parts(), None, 0, True,
                          {}, object(), (letters, template.text())):
                self.check(template, other, False)
        self.check(Template("ab", "-"), "-", False)
        self.check(Template("ab", "-"), [], False)


if __name__ == "__main__":
    unittest.main()
