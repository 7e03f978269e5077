"""[3], [4] and [13]: letters, texts, turns and the turns made."""

import unittest
from itertools import product
from random import Random

from ownfill.errors import InvalidLetters, LettersDiffer, UnknownLetter
from ownfill.turns import (MOST_LETTERS, after, check_letters, check_same_letters, check_text, is_turn,
                           kept_letters, order_of, turned, turns_made, undone)
from tests.samples import ALL_LETTERS, BAD_LETTERS, all_turns, model_turned, some_text, texts_up_to

WRONG_SIGNS = ["A", "Z", "0", " ", "-", "{", "}", "", "\n", "\u00e4", "`"]


def valid_letters(string):
    """[3] written down sign by sign."""
    return len(string) in (2, 3, 4) and len(set(string)) == len(string) and all("a" <= sign <= "z" for sign in string)


class Letters(unittest.TestCase):
    def check(self, string):
        if valid_letters(string):
            self.assertIsNone(check_letters(string))
        else:
            with self.assertRaises(InvalidLetters) as caught:
                check_letters(string)
            self.assertEqual(caught.exception.code, "InvalidLetters")

    def test_most_letters(self):
        self.assertEqual(MOST_LETTERS, 4)

    def test_every_string_of_few_signs(self):
        for size in range(7):
            for signs in product("abzA", repeat=size):
                self.check("".join(signs))

    def test_named_edges(self):
        for string in BAD_LETTERS:
            with self.subTest(string):
                self.assertFalse(valid_letters(string))
                self.check(string)
        for string in ALL_LETTERS + ["az", "za", "wxyz"]:
            with self.subTest(string):
                self.assertTrue(valid_letters(string))
                self.check(string)

    def test_valid_letters_bent_at_one_place(self):
        for letters in ALL_LETTERS:
            for place in range(len(letters)):
                for sign in WRONG_SIGNS + list("abcdz"):
                    self.check(letters[:place] + sign + letters[place + 1:])
                    self.check(letters[:place] + sign + letters[place:])

    def test_random_strings(self):
        random = Random(31)
        for _ in range(3000):
            self.check("".join(random.choice("abcdeyzAZ09 -{") for _ in range(random.randint(0, 6))))

    def test_letters_by_name(self):
        self.assertIsNone(check_letters(letters="ab"))
        with self.assertRaises(InvalidLetters):
            check_letters(letters="abcde")

    def test_same_letters_are_the_same_string(self):
        self.assertIsNone(check_same_letters("ab", "ab"))
        for other in ("ba", "abc", "ac"):
            with self.assertRaises(LettersDiffer):
                check_same_letters("ab", other)


class Texts(unittest.TestCase):
    def test_valid_texts(self):
        for letters in ALL_LETTERS:
            for text in texts_up_to(letters, 3):
                self.assertIsNone(check_text(letters, text))
        self.assertIsNone(check_text(letters="ab", text="ba" * 150))

    def test_first_wrong_sign(self):
        random = Random(32)
        for _ in range(2000):
            letters = random.choice(ALL_LETTERS)
            signs = list(some_text(random, letters, 12) + random.choice(letters))
            places = sorted({random.randrange(len(signs)) for _ in range(random.randint(1, 3))})
            for place in places:
                signs[place] = random.choice([sign for sign in "ABZ019 -{}\u00e4efg" if sign not in letters])
            text = "".join(signs)
            for ask in (check_text, lambda letters, text: turned(letters, letters, text)):
                with self.assertRaises(UnknownLetter) as caught:
                    ask(letters, text)
                self.assertEqual(caught.exception.position, places[0])

    def test_letter_of_other_letters(self):
        with self.assertRaises(UnknownLetter) as caught:
            check_text("ab", "abca")
        self.assertEqual(caught.exception.position, 2)


class Turns(unittest.TestCase):
    def test_is_turn_by_the_counts_of_letters(self):
        for letters in ALL_LETTERS:
            turns = all_turns(letters)
            for size in range(6):
                for signs in product(letters + "eA", repeat=size) if size < 5 else product(letters, repeat=size):
                    string = "".join(signs)
                    self.assertIs(is_turn(letters, string), string in turns)

    def test_bent_turns_are_none(self):
        for letters in ALL_LETTERS:
            for turn in all_turns(letters):
                self.assertIs(is_turn(letters=letters, turn=turn), True)
                for place in range(len(turn)):
                    self.assertIs(is_turn(letters, turn[:place] + turn[place + 1:]), False)
                    for sign in letters + "uA -{":
                        self.assertIs(is_turn(letters, turn[:place] + sign + turn[place:]), False)
                        if sign != turn[place]:
                            self.assertIs(is_turn(letters, turn[:place] + sign + turn[place + 1:]), False)

    def test_turned_letter_by_letter(self):
        random = Random(41)
        for letters in ALL_LETTERS:
            for turn in all_turns(letters):
                self.assertEqual(turned(letters, turn, ""), "")
                self.assertEqual(turned(letters, turn, letters), turn)
                for _ in range(5):
                    text = some_text(random, letters)
                    self.assertEqual(turned(letters, turn, text), model_turned(letters, turn, text))
                    self.assertEqual(turned(text=text, turn=turn, letters=letters), turned(letters, turn, text))
        self.assertEqual(turned("abc", "bac", "aabcb"), "bbaca")

    def test_after_undone_and_order_against_turned_texts(self):
        random = Random(42)
        for letters in ALL_LETTERS:
            text = some_text(random, letters) + letters
            for one in all_turns(letters):
                self.assertEqual(model_turned(letters, undone(letters, one), model_turned(letters, one, text)), text)
                self.assertTrue(is_turn(letters, undone(letters, one)))
                self.assertEqual(order_of(letters, one), self.times_until_back(letters, one, text))
                for other in all_turns(letters):
                    both = after(letters, one, other)
                    self.assertEqual(model_turned(letters, both, text),
                                     model_turned(letters, other, model_turned(letters, one, text)))

    def times_until_back(self, letters, turn, text):
        times, now = 1, model_turned(letters, turn, text)
        while now != text:
            times, now = times + 1, model_turned(letters, turn, now)
        return times

    def test_known_answers(self):
        self.assertEqual(after("abc", "bac", "acb"), "cab")
        self.assertEqual(undone("abc", "bca"), "cab")
        self.assertEqual([order_of("abcd", turn) for turn in ("abcd", "bacd", "bcad", "bcda", "badc")], [1, 2, 3, 4, 2])
        self.assertEqual(order_of("ba", "ba"), 1)

    def test_kept_letters(self):
        for letters in ALL_LETTERS:
            for one in all_turns(letters):
                for other in all_turns(letters):
                    wanted = [sign for sign in letters
                              if model_turned(letters, one, sign) == model_turned(letters, other, sign)]
                    self.assertEqual(kept_letters(letters, one, other), "".join(wanted))
        self.assertEqual(kept_letters("cab", "cba", "cab"), "c")
        self.assertEqual(kept_letters("ab", "ba", "ba"), "ab")

    def test_arguments_by_name(self):
        self.assertEqual(after(other="acb", one="bac", letters="abc"), "cab")
        self.assertEqual(undone(turn="bca", letters="abc"), "cab")
        self.assertEqual(order_of(turn="bca", letters="abc"), 3)
        self.assertEqual(kept_letters(other="abc", one="bac", letters="abc"), "c")
        self.assertEqual(turns_made(turns=["ba"], letters="ab"), ["ab", "ba"])


class TurnsMade(unittest.TestCase):
    def smallest_closed(self, letters, turns):
        """The least set of turns that contains the given ones and the plain one, and all that they make."""
        made = {letters, *turns}
        while True:
            more = made | {model_turned(letters, other, one) for one in made for other in made}
            if more == made:
                return made
            made = more

    def check(self, letters, turns):
        given = list(turns)
        made = turns_made(letters, turns)
        self.assertIsInstance(made, list)
        self.assertEqual(list(turns), given)
        self.assertEqual(made, sorted(set(made)))
        self.assertIn(letters, made)
        self.assertEqual(set(made), self.smallest_closed(letters, turns))
        for one in made:
            self.assertIn(undone(letters, one), made)
            for other in made:
                self.assertIn(after(letters, one, other), made)
        made.append("changed")
        made[0] = "changed"
        self.assertEqual(turns_made(letters, turns), sorted(self.smallest_closed(letters, turns)))

    def test_none_and_one(self):
        for letters in ALL_LETTERS:
            self.assertEqual(turns_made(letters, []), [letters])
            for turn in all_turns(letters):
                self.check(letters, [turn])
                self.assertEqual(len(turns_made(letters, [turn])), order_of(letters, turn))

    def test_two_and_three_also_equal_ones(self):
        random = Random(131)
        for letters in ALL_LETTERS:
            for _ in range(25):
                turns = [random.choice(all_turns(letters)) for _ in range(random.randint(2, 3))]
                self.check(letters, turns)
                self.check(letters, tuple(turns))
                self.check(letters, turns + [turns[0]])

    def test_known_answers(self):
        self.assertEqual(turns_made("ba", ["ab"]), ["ab", "ba"])
        self.assertEqual(turns_made("abc", ["bca"]), ["abc", "bca", "cab"])
        self.assertEqual(turns_made("abc", ["bca", "bac"]), all_turns("abc"))
        self.assertEqual(turns_made("abcd", ("bacd", "abdc")), ["abcd", "abdc", "bacd", "badc"])


if __name__ == "__main__":
    unittest.main()
