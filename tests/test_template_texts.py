"""[5]: templates and their texts: what is read, what is refused, and what is shown."""

import re
import unittest
from itertools import product
from random import Random

from ownfill.errors import InvalidLetters, ParseError, UnknownLetter
from ownfill.templates import Template
from tests.samples import (ALL_LETTERS, BAD_LETTERS, all_turns, model_parts, model_text, some_cases, some_text,
                           texts_up_to)


def first_wrong_position(letters, text):
    """None for the text of a template, otherwise the position that ParseError has."""
    if text == "-":
        return None
    if text == "":
        return 0
    blanks = "|".join([""] + all_turns(letters))
    whole = re.match("(?:[" + letters + "]|\\{(?:" + blanks + ")\\})*", text).end()
    return None if whole == len(text) else whole


class Shown(unittest.TestCase):
    def check_items(self, template, letters, items):
        blanks = [what for kind, what in items if kind == "blank"]
        size = len(items) - len(blanks)
        self.assertEqual(template.letters, letters)
        self.assertEqual(template.blanks, len(blanks))
        self.assertEqual(template.size, size)
        self.assertEqual(template.row(), [what for _, what in items])
        self.assertEqual(template.parts(), model_parts(items))
        self.assertEqual(len(template), len(model_parts(items)))
        self.assertEqual(template.text(), model_text(letters, items))
        self.assertEqual(str(template), model_text(letters, items))
        self.assertEqual(repr(template), "Template(" + str(len(blanks)) + " blanks, " + str(size) + " letters)")

    def test_by_the_items_with_plain_blanks_written_in_both_ways(self):
        for random, letters, items in some_cases(51, 1500):
            self.check_items(Template(letters, model_text(letters, items)), letters, items)
            self.check_items(Template(letters, model_text(letters, items, long=lambda: True)), letters, items)
            mixed = model_text(letters, items, long=lambda: random.random() < 0.5)
            self.check_items(Template(letters, mixed), letters, items)
            self.check_items(Template(text=mixed, letters=letters), letters, items)

    def test_known_templates(self):
        one = Template("ab", "a{}b{ba}")
        self.assertEqual(one.parts(), [("text", "a"), ("blank", "ab"), ("text", "b"), ("blank", "ba")])
        self.assertEqual(one.row(), ["a", "ab", "b", "ba"])
        self.assertEqual(repr(one), "Template(2 blanks, 2 letters)")
        self.assertEqual(repr(Template("ab", "{}")), "Template(1 blanks, 0 letters)")
        self.assertEqual(repr(Template("ab", "b")), "Template(0 blanks, 1 letters)")
        self.assertEqual(Template("ab", "aab{}{}bb").parts(),
                         [("text", "aab"), ("blank", "ab"), ("blank", "ab"), ("text", "bb")])

    def test_plain_turn_follows_the_order_of_the_letters(self):
        self.assertEqual(Template("ba", "{ba}{ab}").text(), "{}{ab}")
        self.assertEqual(Template("ab", "{ba}{ab}").text(), "{ba}{}")

    def test_the_empty_template(self):
        empty = Template("abc", "-")
        self.check_items(empty, "abc", [])
        self.assertEqual([empty.text(), str(empty), len(empty), empty.row(), empty.parts()], ["-", "-", 0, [], []])
        self.assertEqual(repr(empty), "Template(0 blanks, 0 letters)")

    def test_returned_lists_are_new(self):
        for _, letters, items in some_cases(52, 200):
            template = Template(letters, model_text(letters, items))
            for ask in (template.row, template.parts):
                returned = ask()
                self.assertIsInstance(returned, list)
                returned.append("x")
                returned[0] = "changed"
            self.check_items(template, letters, items)
        self.assertTrue(all(isinstance(part, tuple) for part in Template("ab", "a{}").parts()))

    def test_properties_are_not_assigned(self):
        template = Template("ab", "a{}")
        for name in ("letters", "blanks", "size"):
            with self.assertRaises(AttributeError):
                setattr(template, name, "ba")

    def test_a_long_text(self):
        text = "a{}b{ba}" * 250
        template = Template("ab", text)
        self.assertEqual([template.text(), template.blanks, template.size, len(template)], [text, 500, 500, 1000])


class Read(unittest.TestCase):
    def check(self, letters, text):
        wanted = first_wrong_position(letters, text)
        if wanted is None:
            self.assertEqual(Template(letters, text).text(), text.replace("{" + letters + "}", "{}"))
        else:
            with self.assertRaises(ParseError) as caught:
                Template(letters, text)
            self.assertEqual((text, caught.exception.position), (text, wanted))

    def test_every_string_of_few_signs(self):
        for size in range(6):
            for signs in product("ab{}-", repeat=size):
                self.check("ab", "".join(signs))

    def test_bent_texts(self):
        for random, letters, items in some_cases(53, 250):
            text = model_text(letters, items, long=lambda: random.random() < 0.5)
            self.check(letters, text)
            for place in range(len(text) + 1):
                sign = random.choice(letters + "{}-A0 e\u00e4")
                self.check(letters, text[:place] + text[place + 1:])
                self.check(letters, text[:place] + sign + text[place:])
                self.check(letters, text[:place] + sign + text[place + 1:])

    def test_named_edges(self):
        cases = [("", 0), ("-a", 0), ("a-", 1), ("--", 0), ("-{}", 0), ("{}-", 2), ("{-}", 0), (" ", 0), ("a b", 1),
                 ("{", 0), ("}", 0), ("a{", 1), ("a}", 1), ("{a}", 0), ("{aa}", 0), ("{ab", 0), ("a{b{}}", 1),
                 ("{{}}", 0), ("{}}", 2), ("{}{", 2), ("{aba}", 0), ("{ab}{ba", 4), ("{AB}", 0), ("abc", 2), ("A", 0)]
        for text, position in cases:
            with self.subTest(text):
                self.assertEqual(first_wrong_position("ab", text), position)
                self.check("ab", text)

    def test_wrong_letters_come_first(self):
        for letters in BAD_LETTERS:
            for text in ("", "a", "-", "{}", "{" + letters + "}", "?", letters):
                with self.subTest((letters, text)), self.assertRaises(InvalidLetters):
                    Template(letters, text)

    def test_a_turn_of_other_letters(self):
        for text in ("{ab}", "{abcd}", "{abd}", "{aab}"):
            with self.assertRaises(ParseError) as caught:
                Template("abc", "c" + text)
            self.assertEqual(caught.exception.position, 1)


class Made(unittest.TestCase):
    def test_fixed(self):
        random = Random(54)
        for letters in ALL_LETTERS:
            for text in texts_up_to(letters, 3) + [some_text(random, letters) for _ in range(20)]:
                template = Template.fixed(letters, text)
                self.assertIsInstance(template, Template)
                self.assertEqual(template.letters, letters)
                self.assertEqual(template.row(), list(text))
                self.assertEqual(template.text(), text if text else "-")
                self.assertEqual(template.parts(), [("text", text)] if text else [])
        self.assertEqual(Template.fixed(text="ba", letters="ab").text(), "ba")

    def test_fixed_with_wrong_texts(self):
        for text, position in (("-", 0), ("{}", 0), ("a{}", 1), ("abba c", 4), ("A", 0), ("bac?", 2)):
            with self.assertRaises(UnknownLetter) as caught:
                Template.fixed("ab", text)
            self.assertEqual(caught.exception.position, position)

    def test_fixed_with_wrong_letters(self):
        for letters in BAD_LETTERS:
            for text in ("", "a", "?", letters):
                with self.subTest((letters, text)), self.assertRaises(InvalidLetters):
                    Template.fixed(letters, text)

    def test_blank(self):
        for letters in ALL_LETTERS:
            for template in (Template.blank(letters), Template.blank(letters, turn=None),
                             Template.blank(letters=letters), Template.blank(letters, turn=letters)):
                self.assertEqual([template.letters, template.row(), template.text()], [letters, [letters], "{}"])
            for turn in all_turns(letters):
                template = Template.blank(letters, turn=turn)
                self.assertEqual([template.letters, template.row()], [letters, [turn]])
                self.assertEqual(template.text(), "{}" if turn == letters else "{" + turn + "}")

    def test_blank_with_wrong_letters(self):
        for letters in BAD_LETTERS:
            for more in ({}, {"turn": None}, {"turn": "ba"}, {"turn": letters}):
                with self.subTest((letters, more)), self.assertRaises(InvalidLetters):
                    Template.blank(letters, **more)

    def test_the_turn_is_keyword_only(self):
        with self.assertRaises(TypeError):
            Template.blank("ab", "ba")


if __name__ == "__main__":
    unittest.main()
