"""[11]: programs and their texts: parse_program, format_program, program_names and nodes_of."""

import re
import types
import unittest
from random import Random

from ownfill.errors import FillError, InvalidText
from ownfill.programs import format_program, nodes_of, parse_program, program_names
from tests.program_models import NAMES, flat, own_names, own_nodes, own_text, some_program
from tests.samples import ALL_LETTERS


def some_programs(seed, many, deep=4, nested=False):
    random = Random(seed)
    for at in range(many):
        letters = ALL_LETTERS[at % len(ALL_LETTERS)]
        names = random.choice([None, NAMES, NAMES[:2]])
        yield random, letters, some_program(random, letters, random.randint(0, deep), names=names, nested=nested)


class Texts(unittest.TestCase):
    def test_there_and_back(self):
        for _, letters, program in some_programs(31, 1500):
            text = own_text(program)
            self.assertEqual(format_program(program), text)
            self.assertEqual(format_program(program=program), text)
            found = parse_program(letters, text)
            self.assertEqual(found, program)
            self.assertIs(type(found), tuple)
            self.assertEqual(parse_program(text=text, letters=letters), program)

    def test_blanks_that_are_written_out(self):
        for random, letters, program in some_programs(32, 500):
            text = own_text(program)
            long = re.sub("{}", lambda _: random.choice(["{}", "{" + letters + "}"]), text)
            self.assertEqual(parse_program(letters, long), program)
            self.assertEqual(format_program(parse_program(letters, long)), text)

    def test_known_texts(self):
        yes = ("match", "a*")
        cases = {
            "skip": ("skip",), "fill -": ("fill", "-"), "fill a{ab}{ba}": ("fill", "a{}{ba}"),
            "fail no": ("fail", "no"), "fail skip": ("fail", "skip"),
            "call while": ("call", "while"), "fail abcdefgh": ("fail", "abcdefgh"),
            "skip; skip": ("block", ("skip",), ("skip",)),
            "skip; fill a; call x": ("block", ("skip",), ("fill", "a"), ("call", "x")),
            "if match(a*) [skip] [fail x]": ("if", yes, ("skip",), ("fail", "x")),
            "while match(a*) [fill {}a]": ("while", yes, ("fill", "{}a")),
            "while match(a*) [fill {}a; skip]; fill b":
                ("block", ("while", yes, ("block", ("fill", "{}a"), ("skip",))), ("fill", "b")),
            "if named if [if named if [skip] [skip]; skip] [while named while [skip]]":
                ("if", ("named", "if"), ("block", ("if", ("named", "if"), ("skip",), ("skip",)), ("skip",)),
                 ("while", ("named", "while"), ("skip",))),
            "while not begins(a{},{}a) [fill {ba}a]; skip":
                ("block", ("while", ("not", ("begins", "a{}", "{}a")), ("fill", "{ba}a")), ("skip",)),
        }
        for text, program in cases.items():
            with self.subTest(text):
                self.assertEqual(parse_program("ab", text), program)

    def test_ten_deep_and_more(self):
        for begin, end in (("while match(a) [", "]"), ("if match(a) [", "] [skip]"), ("if match(a) [fail x] [", "]"),
                           ("while match(a) [skip; ", "]; skip")):
            for deep in (10, 11, 40):
                text = begin * deep + "skip" + end * deep
                program = parse_program("ab", text)
                self.assertEqual(format_program(program), text)
                self.assertEqual(len(list(nodes_of(program))), len(own_nodes(program)))
                for bent in (text + "]", begin + text, text[:-1] + "?", begin * deep, text + end):
                    with self.subTest(bent), self.assertRaises(InvalidText):
                        parse_program("ab", bent)


class Parts(unittest.TestCase):
    def test_nodes(self):
        for nested in (False, True):
            for _, _, program in some_programs(33, 600, nested=nested):
                found = nodes_of(program)
                self.assertIs(type(found), types.GeneratorType)
                self.assertEqual(list(found), own_nodes(program))
                self.assertEqual(list(nodes_of(program=program)), own_nodes(program))

    def test_names(self):
        for nested in (False, True):
            for _, _, program in some_programs(34, 600, nested=nested):
                names = program_names(program)
                self.assertEqual(names, own_names(program))
                self.assertIs(type(names), list)
                names.append("more")
                self.assertEqual(program_names(program=program), own_names(program))

    def test_names_once_in_the_order_of_the_first_occurrences(self):
        text = "if (named b and named a) [call c; call b] [while named d [call a]]; call e; while named b [call f]"
        self.assertEqual(program_names(parse_program("ab", text)), ["b", "a", "c", "d", "e", "f"])
        self.assertEqual(program_names(("block", ("call", "z"), ("block", ("call", "y"), ("call", "z")))), ["z", "y"])
        self.assertEqual(program_names(("skip",)), [])

    def test_the_program_stays(self):
        for _, _, program in some_programs(35, 100, nested=True):
            before = repr(program)
            list(nodes_of(program))
            program_names(program)
            format_program(flat(program))
            self.assertEqual(repr(program), before)


class Refused(unittest.TestCase):
    def check(self, letters, text):
        """Either InvalidText, or a program whose text is the string."""
        try:
            program = parse_program(letters, text)
        except FillError as error:
            self.assertIs(type(error), InvalidText, text)
            return False
        self.assertEqual(own_text(program), text.replace("{" + letters + "}", "{}"))
        self.assertEqual(program, flat(program))
        return True

    def test_bent_texts(self):
        for random, letters, program in some_programs(36, 300, 3):
            text = own_text(program)
            for place in range(len(text) + 1):
                sign = random.choice(letters + "[];() {}-,.0A\u00e4sx")
                piece = text[place:place + random.randint(1, 9)]
                self.check(letters, text[:place] + text[place + 1:])
                self.check(letters, text[:place] + sign + text[place:])
                self.check(letters, text[:place] + sign + text[place + 1:])
                self.check(letters, text[:place] + piece + text[place:])

    def test_odd_texts(self):
        odd = ["", " ", ";", "; ", "skip;", "skip; ", "; skip", "skip;skip", "skip ;skip", "skip;  skip", "skip ; skip",
               " skip", "skip ", "skipskip", "skip skip", "Skip", "SKIP", "ski", "skips", "skip a", "fill", "fill ",
               "fill  a", "fill c", "fill a b", "fill {", "fill {}}", "fill {a}", "fill {aa}", "fill a-", "fill --",
               "filla", "fill a ", "fill a;", "fill [a]", "fill a]", "[fill a]", "fail", "fail ", "fail A", "fail a1",
               "fail abcdefghi", "fail  a", "fail a b", "fail \u00e4", "fail -", "call", "call ", "call A",
               "call abcdefghi", "call a.b", "callx", "if", "if ", "if match(a)", "if match(a) [skip]",
               "if match(a) [skip] ", "if match(a) [skip][skip]", "if match(a)[skip] [skip]", "if match(a) [] [skip]",
               "if match(a) [skip] []", "if match(a) [skip]  [skip]", "if match(a) [skip] [skip] [skip]",
               "if match(a) [skip] [skip", "if match(a) [skip [skip]]", "if match(a) skip skip", "if [skip] [skip]",
               "if match(c) [skip] [skip]", "if match(a) [skip;] [skip]", "if match(a) [ skip] [skip]",
               "if match(a) [skip ] [skip]", "if (match(a)) [skip] [skip]", "if match(a) and match(b) [skip] [skip]",
               "if match(a) [skip]; skip [skip]", "if match(a) [skip] [skip] skip", "if match(a) [skip] else [skip]",
               "while", "while match(a)", "while match(a) []", "while match(a) [skip", "while match(a) [skip]]",
               "while match(a)[skip]", "while match(a) [skip] [skip]", "while  match(a) [skip]", "while [skip]",
               "while match(a) [skip]skip", "while match(a) [skip];skip", "while match(a) (skip)", "while match(a) [;]",
               "while match(a) [skip; ]", "while match(a) [while match(a) [skip]", "whilematch(a) [skip]",
               "while length(2,2) [skip]", "while same(a) [skip]", "while named [skip]", "while named A [skip]",
               "match(a)", "named x", "not skip", "skip\n", "skip;\nskip", "skip;\tskip", "[skip]", "(skip)", "[", "]",
               "] [", "[" * 60, "]" * 60, "while match(a) [" * 60, "if match(a) [" * 60, "skip; " * 60, "block skip"]
        for text in odd:
            with self.subTest(text), self.assertRaises(InvalidText):
                parse_program("ab", text)

    def test_pieces_put_together(self):
        random = Random(37)
        pieces = ["skip", "fill a", "fill {}", "fail x", "call y", "; ", " [", "]", "] [", "while match(a) [",
                  "if named x [", "while ", "if ", "match(a)", "skip; skip"]
        whole = 0
        for _ in range(20000):
            whole += self.check("ab", "".join(random.choice(pieces) for _ in range(random.randint(1, 6))))
        self.assertGreater(whole, 500)


if __name__ == "__main__":
    unittest.main()
