"""[14]: the least text on which two programs differ."""

import unittest
from random import Random

from ownfill.chains import fills_size
from ownfill.errors import LettersDiffer, TooLong, TooMany
from ownfill.programs import parse_program
from ownfill.tables import compiled, parted
from ownfill.templates import Template
from tests.program_models import own_nodes, own_outcome, some_fill, some_program
from tests.samples import ALL_LETTERS, some_text
from tests.test_tables import short_texts, some_tables


def own_last(letters, program, table, text):
    """What a program does with a text, as far as parted compares it; ("open",) if the own run got too long."""
    own, last = own_outcome(letters, program, text)
    if own[0] == "ends":
        return ("ends", last)
    return own if own[0] == "fails" else ("endless",) if table.outcome(text)[0] == "endless" else ("open",)


def changed(random, letters, program, change):
    """The program in which one of its fills, chosen by chance, is changed."""
    fills = [node for node in own_nodes(program) if node[0] == "fill"]
    if not fills:
        return None
    left = random.randrange(len(fills))

    def walk(node):
        nonlocal left
        if node[0] == "fill":
            left -= 1
            return change(node[1]) if left == -1 else node
        if node[0] in ("block", "if", "while"):
            return (node[0], *(walk(part) if isinstance(part, tuple) and part[0] in
                               ("skip", "fill", "fail", "if", "while", "block") else part for part in node[1:]))
        return node

    return walk(program)


def tables_or_none(letters, *programs):
    try:
        return [compiled(letters, program, limit=400) for program in programs]
    except TooMany:
        return None


class Parted(unittest.TestCase):
    def check(self, letters, one, other, tables):
        """Against own runs on all short texts, in both directions; returns what was found."""
        try:
            found = parted(*tables, limit=3000)
        except TooLong:
            return "long"
        self.assertEqual(parted(tables[1], tables[0], limit=3000), found)
        texts = short_texts(letters)
        for text in texts:
            lasts = [own_last(letters, program, table, text) for program, table in zip((one, other), tables)]
            if ("open",) in lasts:
                return "open"
            self.assertEqual(lasts[0] != lasts[1], text == found, (letters, one, other, text, found, lasts))
            if text == found:
                return text
        self.assertNotIn(found, texts)
        return found

    def test_any_two(self):
        found = {}
        for random, letters, one, table in some_tables(101, 250):
            other = some_program(random, letters, random.randint(0, 3))
            tables = tables_or_none(letters, other)
            if tables is not None:
                told = self.check(letters, one, other, [table, tables[0]])
                found[told] = found.get(told, 0) + 1
        self.assertLess(found.get("open", 0) + found.get("long", 0), 30)

    def test_fills_that_do_the_same(self):
        seen = 0
        for random, letters, one, table in some_tables(102, 300):
            one_fill, other_fill = some_fill(random, letters, 2), some_fill(random, letters, 2)
            pair = ("block", ("fill", one_fill), ("fill", other_fill))
            whole = ("fill", Template(letters, other_fill).put(Template(letters, one_fill)).text())
            first = changed(random, letters, one, lambda fill: pair)
            if first is None:
                continue
            second = swapped(first, pair, whole)
            tables = tables_or_none(letters, first, second)
            if tables is None:
                continue
            try:
                self.assertIsNone(parted(*tables, limit=3000))
                seen += tables[0] != tables[1]
            except TooLong:
                continue
        self.assertGreater(seen, 100)

    def test_a_letter_more(self):
        seen = {}
        for random, letters, one, table in some_tables(103, 300):
            letter = random.choice(letters)
            other = changed(random, letters, one, lambda fill: ("fill", fill + letter if fill != "-" else letter))
            tables = other and tables_or_none(letters, one, other)
            if tables:
                told = self.check(letters, one, other, tables)
                seen[told] = seen.get(told, 0) + 1
        self.assertGreater(seen[""], 30)
        self.assertGreater(len(seen), 5)

    def test_the_same_program(self):
        for _, letters, one, table in some_tables(104, 100):
            self.assertIsNone(parted(table, compiled(letters, one)))
            self.assertIsNone(parted(other=table, one=table, limit=0))

    def test_known_ones(self):
        cases = [
            ("fill {}a", "fill a{}", "b"), ("fill {}ab", "fill ab{}", "a"), ("fill {}", "skip", None),
            ("fill {ba}; fill {ba}", "skip", None), ("fail x", "fail x", None), ("fail x", "fail y", ""),
            ("while match(.*) [skip]", "while match(a*) [fill {}a]; while match(.*b.*) [fill b]", None),
            ("while match(a*) [skip]", "while match(a*) [fail x]", ""), ("fill a; fail x", "fail x", None),
            ("if match(a*) [fill {}a] [fill b]", "if match(a*) [fill a{}] [fill b]", None),
            ("if length(1,2) [fill {}a] [skip]", "if length(1,2) [fill a{}] [skip]", "b"),
            ("if length(0,2) [fill {}{ba}] [skip]", "if length(0,2) [fill {ba}{}] [skip]", "aa"),
            ("fill -", "fill a", ""), ("fill -", "fill {}", "a"), ("fill b", "fill {}", ""),
        ]
        for one, other, wanted in cases:
            tables = [compiled("ab", parse_program("ab", text)) for text in (one, other)]
            self.assertEqual([parted(*tables), parted(tables[1], tables[0])], [wanted, wanted], (one, other))
        tables = [compiled("ba", parse_program("ba", text)) for text in ("fill {}{ba}", "fill {}{ab}")]
        self.assertEqual(parted(*tables), "b")

    def test_long_texts(self):
        random = Random(105)
        for at in range(60):
            letters = ALL_LETTERS[at % len(ALL_LETTERS)]
            word = "".join(random.choice(letters) for _ in range(random.randint(6, 14)))
            yes = "if match(" + word + ") "
            other = "if match(" + word + "|" + word + random.choice(letters) + ".*) "
            for one, two in ((yes + "[fail x] [fill {}]", "skip"),
                             (yes + "[fill {}] [fail x]", other + "[skip] [fail y]"),
                             (yes + "[fill {}" + letters[0] + "] [fill -]", other + "[fill {}] [fill -]")):
                tables = [compiled(letters, parse_program(letters, text)) for text in (one, two)]
                found = parted(*tables)
                self.assertEqual(found, word if "fail y" not in two else "")
            # Both templates give the same for all beginnings of the endless word, and only these get there.
            piece = some_text(random, letters, 1) + letters[0] + letters[1]
            size = random.randint(6, 14)
            one = "if (length(%d,60) and begins({},%s)) [fill {}%s] [skip]" % (size, piece * 6, piece)
            two = "if (length(%d,60) and begins({},%s)) [fill %s{}] [skip]" % (size, piece * 6, piece)
            tables = [compiled(letters, parse_program(letters, text)) for text in (one, two)]
            text = (piece * 6)[:size]
            self.assertEqual(parted(*tables), None if text + piece == piece + text else text)

    def test_other_letters(self):
        for letters in ("ba", "abc"):
            with self.assertRaises(LettersDiffer):
                parted(compiled("ab", ("fill", "{}" * 999)), compiled(letters, ("skip",)), limit=1)


def swapped(program, old, new):
    """The program with another one in the place of an equal one."""
    if program == old:
        return new
    if program[0] in ("block", "if", "while"):
        return (program[0], *(swapped(part, old, new) if isinstance(part, tuple) else part for part in program[1:]))
    return program


class Limits(unittest.TestCase):
    def own_too_long(self, tables, limit):
        """Whether two rows with different lists of fills have a text in common and one of them makes too much."""
        for first, one in tables[0].rows():
            for second, other in tables[1].rows():
                if one[0] == other[0] == "ends" and one[1] != other[1]:
                    sizes = [sum(fills_size(first.letters, fills)) for fills in (one[1], other[1])]
                    if max(sizes) > limit and (first & second).least_text(True) is not None:
                        return True
        return False

    def test_exactly(self):
        seen = [0, 0]
        for random, letters, one, table in some_tables(106, 150):
            other = some_program(random, letters, random.randint(0, 3))
            tables = tables_or_none(letters, other)
            if tables is None or len(table) * len(tables[0]) > 60:
                continue
            tables = [table, tables[0]]
            sizes = {0, 1, 3, 400}
            for made in tables:
                for _, outcome in made.rows():
                    if outcome[0] == "ends":
                        size = sum(fills_size(letters, outcome[1]))
                        sizes |= {size - 1, size} if size < 1000 else set()
            for limit in sizes:
                long = self.own_too_long(tables, limit)
                seen[long] += 1
                for pair in (tables, tables[::-1]):
                    if long:
                        with self.assertRaises(TooLong) as caught:
                            parted(*pair, limit=limit)
                        self.assertEqual(caught.exception.limit, limit)
                    else:
                        parted(*pair, limit=limit)
        self.assertGreater(min(seen), 100)

    def test_the_limit_that_is_left_out(self):
        for size, raises in ((399, False), (400, True)):
            one = compiled("ab", ("fill", "{}" + "a" * size))
            two = compiled("ab", ("fill", "a" * size + "{}"))
            three = compiled("ab", ("block", ("fill", "{}" + "a" * size), ("fill", "{}")))
            for other, wanted in ((two, "b"), (three, None)):
                if raises:
                    with self.assertRaises(TooLong) as caught:
                        parted(one, other)
                    self.assertEqual(caught.exception.limit, 400)
                else:
                    self.assertEqual(parted(one, other), wanted)
            self.assertIsNone(parted(one, one))

    def test_rows_without_a_common_text(self):
        one = compiled("ab", parse_program("ab", "if match(a) [fill {}" + "{}a" * 300 + "] [fail x]"))
        two = compiled("ab", parse_program("ab", "if match(a) [fail x] [fill " + "{}b" * 300 + "]"))
        self.assertEqual(parted(one, two), "")
        self.assertEqual(parted(one, compiled("ab", ("fail", "x"))), "a")
        with self.assertRaises(TooLong):
            parted(one, compiled("ab", ("skip",)))

    def test_two_lists_of_the_same_size(self):
        one = compiled("ab", parse_program("ab", "fill {}{}{}; fill {}b"))
        two = compiled("ab", parse_program("ab", "fill {}{}; fill {}{}; fill {}"))
        for limit, wanted in ((4, ""), (5, ""), (3, None)):
            if wanted is None:
                with self.assertRaises(TooLong):
                    parted(one, two, limit=limit)
            else:
                self.assertEqual(parted(one, two, limit=limit), wanted)


if __name__ == "__main__":
    unittest.main()
