"""[9]: patterns: their texts by an own matcher, how they are put together, and what is refused."""

import unittest
from itertools import product
from random import Random

from ownfill.errors import InvalidLetters, ParseError, UnknownLetter
from ownfill.machines import Machine, joined, repeated
from ownfill.patterns import pattern_holds, pattern_machine
from tests.models import SHORT, check_least, pattern_takes, pattern_text, some_pattern
from tests.samples import ALL_LETTERS, BAD_LETTERS, some_text, texts_up_to


def first_wrong_position(letters, pattern):
    """None for a pattern, otherwise the position of ParseError: [9] as a row of places where signs may stand."""
    parents = []
    starred = False
    for at, sign in enumerate(pattern):
        if sign in letters or sign == ".":
            starred = True
        elif sign == "(":
            parents.append(at)
            starred = False
        elif sign == "|":
            starred = False
        elif sign == ")" and parents:
            parents.pop()
            starred = True
        elif sign == "*" and starred:
            starred = False
        else:
            return at
    return len(pattern) if parents else None


class Texts(unittest.TestCase):
    def test_by_an_own_matcher(self):
        random = Random(91)
        for at in range(800):
            letters = ALL_LETTERS[at % len(ALL_LETTERS)]
            tree = some_pattern(random, letters, 3)
            pattern = pattern_text(tree)
            machine = pattern_machine(letters, pattern)
            self.assertIsInstance(machine, Machine)
            self.assertEqual(machine.letters, letters)
            for text in texts_up_to(letters, SHORT[len(letters)] - 1) + [some_text(random, letters) for _ in range(5)]:
                self.assertIs(machine.answer(text), pattern_takes(tree, text), (pattern, text))
                self.assertIs(pattern_holds(letters, pattern, text), machine.answer(text))
            check_least(self, machine)
            self.assertEqual(pattern_machine(pattern=pattern, letters=letters), machine)

    def test_alternatives_rows_and_stars_against_machines(self):
        random = Random(92)
        for at in range(500):
            letters = ALL_LETTERS[at % len(ALL_LETTERS)]
            one, other = (pattern_text(some_pattern(random, letters, 2)) for _ in range(2))
            first, second = pattern_machine(letters, one), pattern_machine(letters, other)
            self.assertEqual(pattern_machine(letters, one + "|" + other), first | second)
            self.assertEqual(pattern_machine(letters, "(" + one + ")(" + other + ")"), joined(first, second))
            self.assertEqual(pattern_machine(letters, "(" + one + ")*"), repeated(first))
            self.assertEqual(pattern_machine(letters, "(" + one + ")"), first)
            self.assertEqual(pattern_machine(letters, "((" + one + ")*|" + other + ")*"),
                             repeated(repeated(first) | second))

    def test_known_patterns(self):
        def shown(pattern, many=6):
            return list(pattern_machine("ab", pattern).texts(True, many=many))

        self.assertEqual(shown(""), [""])
        self.assertEqual(shown("()"), [""])
        self.assertEqual(shown("()*|"), [""])
        self.assertEqual(shown("a"), ["a"])
        self.assertEqual(shown("."), ["a", "b"])
        self.assertEqual(shown("a|"), ["", "a"])
        self.assertEqual(shown("|a"), ["", "a"])
        self.assertEqual(shown("a||b"), ["", "a", "b"])
        self.assertEqual(shown("ab*"), ["a", "ab", "abb", "abbb", "abbbb", "abbbbb"])
        self.assertEqual(shown("a*|b"), ["", "a", "b", "aa", "aaa", "aaaa"])
        self.assertEqual(shown("(ab)*"), ["", "ab", "abab", "ababab", "abababab", "ababababab"])
        self.assertEqual(shown("ab|ba"), ["ab", "ba"])
        self.assertEqual(shown("a(b|a)b"), ["aab", "abb"])
        self.assertEqual(shown("(a*)*b", 3), ["b", "ab", "aab"])
        self.assertEqual(shown("((a|b)*)*", 4), ["", "a", "b", "aa"])
        self.assertEqual(pattern_machine("ab", ".*"), Machine.always("ab"))

    def test_a_long_and_a_deep_pattern(self):
        self.assertEqual(pattern_machine("ab", "ab" * 150), Machine.only("ab", "ab" * 150))
        self.assertEqual(len(pattern_machine("ab", "ab" * 1000)), 2002)
        self.assertEqual(pattern_machine("ab", "a*" * 1000), pattern_machine("ab", "a*"))
        self.assertEqual(pattern_machine("ab", "(" * 20 + "a" + ")*" * 20), pattern_machine("ab", "a*"))

    def test_unknown_letter_of_a_text(self):
        with self.assertRaises(UnknownLetter) as caught:
            pattern_holds("ab", ".*", "abc")
        self.assertEqual(caught.exception.position, 2)


class Refused(unittest.TestCase):
    def check(self, letters, pattern):
        wanted = first_wrong_position(letters, pattern)
        if wanted is None:
            self.assertIsInstance(pattern_machine(letters, pattern), Machine)
        else:
            with self.assertRaises(ParseError) as caught:
                pattern_machine(letters, pattern)
            self.assertEqual((pattern, caught.exception.position), (pattern, wanted))

    def test_every_string_of_few_signs(self):
        for size in range(6):
            for signs in product("a.|()*", repeat=size):
                self.check("ab", "".join(signs))

    def test_bent_patterns(self):
        random = Random(93)
        for at in range(250):
            letters = ALL_LETTERS[at % len(ALL_LETTERS)]
            pattern = pattern_text(some_pattern(random, letters, 3))
            for place in range(len(pattern) + 1):
                sign = random.choice(letters + "**(()).|A0 -{}+?e\u00e4")
                self.check(letters, pattern[:place] + pattern[place + 1:])
                self.check(letters, pattern[:place] + sign + pattern[place:])
                self.check(letters, pattern[:place] + sign + pattern[place + 1:])

    def test_named_edges(self):
        cases = [("*", 0), ("a**", 2), ("(*a)", 1), ("|*", 1), ("a|*", 2), (")", 0), ("a)", 1), ("(", 1), ("(a", 2),
                 ("((a)", 4), ("a(b|", 4), ("(a))", 3), ("c", 0), ("ab?", 2), ("(?", 1), ("a b", 1), ("(a*", 3),
                 ("A", 0), ("a+", 1), ("()**", 3), ("(" * 50, 50), (")" * 50, 0)]
        for pattern, position in cases:
            with self.subTest(pattern):
                self.assertEqual(first_wrong_position("ab", pattern), position)
                self.check("ab", pattern)
        for pattern in ("", "|", "||", "()", "(|)", "()*", "(a*)*", "a*b*", ".*", "(())", "a|"):
            with self.subTest(pattern):
                self.assertIsNone(first_wrong_position("ab", pattern))
                self.check("ab", pattern)

    def test_wrong_letters_come_first(self):
        for letters in BAD_LETTERS:
            for pattern in ("", "a", "?", "(", "*", letters):
                with self.subTest((letters, pattern)), self.assertRaises(InvalidLetters):
                    pattern_machine(letters, pattern)


if __name__ == "__main__":
    unittest.main()
