"""[10]: conditions and their texts: parse_condition, format_condition and condition_names."""

import re
import unittest
from random import Random

from ownfill.conditions import MOST_MODULUS, condition_names, format_condition, parse_condition
from ownfill.errors import FillError, InvalidText
from tests.models import model_condition_text, model_names, some_condition
from tests.samples import ALL_LETTERS

NAMES = ["a", "b", "loop", "and", "or", "not", "named", "match", "same", "abcdefgh", "zz"]


def some_conditions(seed, many, deep=4):
    random = Random(seed)
    for at in range(many):
        letters = ALL_LETTERS[at % len(ALL_LETTERS)]
        names = random.choice([None, NAMES, NAMES[:2]])
        yield random, letters, some_condition(random, letters, deep, names)[0]


def with_plain_blanks(letters, text):
    """The text with {} for each blank that exchanges nothing; in patterns there are no braces."""
    return text.replace("{" + letters + "}", "{}")


class Texts(unittest.TestCase):
    def test_there_and_back(self):
        for random, letters, condition in some_conditions(11, 1500):
            text = model_condition_text(condition)
            self.assertEqual(format_condition(condition), text)
            self.assertEqual(format_condition(condition=condition), text)
            found = parse_condition(letters, text)
            self.assertEqual(found, condition)
            self.assertIs(type(found), tuple)
            self.assertEqual(parse_condition(text=text, letters=letters), condition)
            names = condition_names(condition)
            self.assertEqual(names, model_names(condition))
            self.assertIs(type(names), list)
            names.append("more")
            self.assertEqual(condition_names(condition=condition), model_names(condition))

    def test_blanks_that_are_written_out(self):
        for random, letters, condition in some_conditions(12, 500):
            text = model_condition_text(condition)
            long = re.sub("{}", lambda _: random.choice(["{}", "{" + letters + "}"]), text)
            self.assertEqual(parse_condition(letters, long), condition)
            self.assertEqual(format_condition(parse_condition(letters, long)), text)

    def test_known_texts(self):
        cases = {
            "match(a|b*)": ("match", "a|b*"), "match()": ("match", ""), "match((a)(b|)*)": ("match", "(a)(b|)*"),
            "length(0,1)": ("length", 0, 1), "length(59,60)": ("length", 59, 60), "length(9,10)": ("length", 9, 10),
            "same(-,-)": ("same", "-", "-"), "begins(a{},{ba}b)": ("begins", "a{}", "{ba}b"),
            "ends({ab},{ab}{ba})": ("ends", "{}", "{}{ba}"), "less(a,{})": ("less", "a", "{}"),
            "not not named x": ("not", ("not", ("named", "x"))), "named abcdefgh": ("named", "abcdefgh"),
            "(named and and named or)": ("and", ("named", "and"), ("named", "or")),
            "(not named a or (length(1,2) and match()))":
                ("or", ("not", ("named", "a")), ("and", ("length", 1, 2), ("match", ""))),
            "not (named a or named b)": ("not", ("or", ("named", "a"), ("named", "b"))),
        }
        for text, condition in cases.items():
            with self.subTest(text):
                self.assertEqual(parse_condition("ab", text), condition)
        self.assertEqual(MOST_MODULUS, 60)

    def test_all_numbers(self):
        for rest in range(100):
            for modulus in range(100):
                text = "length(" + str(rest) + "," + str(modulus) + ")"
                if rest < modulus <= 60:
                    self.assertEqual(parse_condition("ab", text), ("length", rest, modulus))
                else:
                    with self.assertRaises(InvalidText):
                        parse_condition("ab", text)

    def test_names_once_in_the_order_of_the_first_occurrences(self):
        condition = parse_condition("ab", "((named b and named a) or not (named b and (named c or named a)))")
        self.assertEqual(condition_names(condition), ["b", "a", "c"])
        self.assertEqual(condition_names(("match", "a")), [])

    def test_twenty_deep(self):
        for begin, end in (("not ", ""), ("(", " or match(b))"), ("(length(1,3) and ", ")")):
            text = begin * 20 + "match(a)" + end * 20
            condition = parse_condition("ab", text)
            self.assertEqual(format_condition(condition), text)
            for bent in (text + ")", "(" + text, text[:-1], text + end + end, begin + begin):
                if bent != text:
                    with self.subTest(bent), self.assertRaises(InvalidText):
                        parse_condition("ab", bent)


class Refused(unittest.TestCase):
    def check(self, letters, text):
        """Either InvalidText, or a condition whose text is the string."""
        try:
            condition = parse_condition(letters, text)
        except FillError as error:
            self.assertIs(type(error), InvalidText, text)
            return False
        self.assertEqual(model_condition_text(condition), with_plain_blanks(letters, text))
        return True

    def test_bent_texts(self):
        for random, letters, condition in some_conditions(13, 250, 3):
            text = model_condition_text(condition)
            for place in range(len(text) + 1):
                sign = random.choice(letters + "(),.|*{}- 0159A\u00e4\u0661n")
                piece = text[place:place + random.randint(1, 9)]
                self.check(letters, text[:place] + text[place + 1:])
                self.check(letters, text[:place] + sign + text[place:])
                self.check(letters, text[:place] + sign + text[place + 1:])
                self.check(letters, text[:place] + piece + text[place:])

    def test_odd_texts(self):
        odd = ["", " ", "not", "not ", "notmatch(a)", "not  match(a)", " match(a)", "match(a) ", "match", "match(",
               "match)", "match(a", "match(a))", "match(()", "match(*)", "match(c)", "match(a b)", "Match(a)",
               "match (a)", "match(a)match(b)", "length()", "length(1)", "length(1,2,3)", "length(,)", "length(1,)",
               "length(,2)", "length(01,2)", "length(0,02)", "length(00,2)", "length(+0,2)", "length(-1,2)",
               "length(0, 2)", "length(0 ,2)", "length(2,2)", "length(3,2)", "length(0,0)", "length(0,61)",
               "length(0,100)", "length(\u0661,2)", "length(a,b)", "same(a)", "same(a,b,a)", "same(,)", "same(a,)",
               "same(,a)", "same(a, b)", "same({},{)", "same({a},{})", "same({aa},{})", "same(a-,b)", "same(--,b)",
               "same(c,a)", "same((a),b)", "same()", "begins(a b)", "ends(a;b)", "less(a,b", "lessa,b)", "named",
               "named ", "named  a", "named A", "named a1", "named abcdefghi", "named a b", "named \u00e4", "nameda",
               "(match(a))", "()", "(", ")", "(match(a) and)", "(match(a) and match(b)", "match(a) and match(b)",
               "(match(a)and match(b))", "(match(a)  and match(b))", "(match(a) and  match(b))",
               "(match(a) xor match(b))", "(match(a) and match(b) and match(a))", "(match(a) or match(b)))",
               "((match(a) or match(b))", "(and match(a) match(b))", "( match(a) and match(b))",
               "(match(a) and match(b) )", "not (match(a))", "(not match(a))", "skip", "same", "(" * 60, "not " * 60,
               "match(" + "(" * 60, ")" * 60, "match(a)\n", "match\t(a)", "{}", "-", "fill {}"]
        for text in odd:
            with self.subTest(text), self.assertRaises(InvalidText):
                parse_condition("ab", text)

    def test_pieces_put_together(self):
        random = Random(14)
        pieces = ["not ", "(", ")", " and ", " or ", "match(", "a", "named ", "named b", ",", "same(", "{}", "-",
                  "length(", "1", "2", "match(a)", "same({},a)", "length(0,2)"]
        whole = 0
        for _ in range(20000):
            whole += self.check("ab", "".join(random.choice(pieces) for _ in range(random.randint(1, 6))))
        self.assertGreater(whole, 100)


if __name__ == "__main__":
    unittest.main()
