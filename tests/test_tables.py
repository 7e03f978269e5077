"""[14]: tables of programs: outcomes, rows, results and the machines of ends, failures and endless runs."""

import unittest
from random import Random

from ownfill.chains import fills_size
from ownfill.errors import InvalidLetters, TooLong, TooMany, UnknownLetter, UnknownName
from ownfill.machines import Machine
from ownfill.programs import parse_program
from ownfill.tables import Table, compiled, moment_texts
from ownfill.values import Values
from tests.models import check_least
from tests.program_models import WORDS, agrees, flat, own_conditions, own_fill, own_nodes, own_outcome, some_program
from tests.samples import ALL_LETTERS, BAD_LETTERS, some_text, texts_up_to

SHORT = {2: 5, 3: 3, 4: 2}


def some_tables(seed, many, deep=3, limit=400, **more):
    """Programs with their tables; those with many values are left out."""
    random = Random(seed)
    for at in range(many):
        letters = ALL_LETTERS[at % len(ALL_LETTERS)]
        program = some_program(random, letters, random.randint(0, deep), nested=random.random() < 0.3, **more)
        try:
            yield random, letters, program, compiled(letters, program, limit=limit)
        except TooMany:
            continue


def short_texts(letters):
    return texts_up_to(letters, SHORT[len(letters)])


def fill_turns(letters, program):
    """The turns of the blanks in the fills of a program."""
    turns = []
    for node in own_nodes(program):
        if node[0] == "fill":
            turns += [piece.partition("}")[0] or letters for piece in node[1].split("{")[1:]]
    return turns


class Outcomes(unittest.TestCase):
    def test_by_own_runs(self):
        kinds = {}
        for _, letters, program, table in some_tables(71, 900):
            for text in short_texts(letters):
                own, last = own_outcome(letters, program, text)
                found = table.outcome(text)
                self.assertTrue(agrees(own, found), (letters, program, text, own, found))
                kinds[own[0]] = kinds.get(own[0], 0) + 1
                if own[0] == "ends":
                    self.assertEqual(table.result(text), last)
                if found[0] != "ends":
                    self.assertIsNone(table.result(text=text))
        self.assertGreater(min(kinds.values()), 500)
        self.assertEqual(len(kinds), 3)

    def test_rows(self):
        for _, letters, program, table in some_tables(72, 300):
            rows = table.rows()
            self.assertIs(type(rows), list)
            self.assertEqual(len(rows), len(table))
            self.assertEqual(repr(table), "Table(%d rows)" % len(rows))
            self.assertEqual(table.letters, letters)
            whole = Machine.never(letters)
            for machine, _ in rows:
                check_least(self, machine)
                self.assertEqual(machine.letters, letters)
                self.assertEqual(machine & whole, Machine.never(letters))
                whole = whole | machine
            self.assertEqual(whole, Machine.always(letters))
            outcomes = [outcome for _, outcome in rows]
            self.assertEqual([outcomes.index(outcome) for outcome in outcomes], list(range(len(rows))))
            firsts = [machine.least_text(True) for machine, _ in rows]
            self.assertNotIn(None, firsts)
            order = sorted(firsts, key=lambda text: (len(text), [letters.index(letter) for letter in text]))
            self.assertEqual(firsts, order)
            for text in short_texts(letters):
                told = [outcome for machine, outcome in rows if machine.answer(text)]
                self.assertEqual(told, [table.outcome(text)])

    def test_ending_endless_failing(self):
        for _, letters, program, table in some_tables(73, 400):
            words = {word: table.failing(word=word) for word in [*WORDS, "other"]}
            ending, endless, failing = table.ending(), table.endless(), table.failing()
            self.assertEqual(table.failing(word=None), failing)
            self.assertEqual(words["other"], Machine.never(letters))
            self.assertEqual(ending | endless | failing, Machine.always(letters))
            for text in short_texts(letters):
                found = table.outcome(text)
                self.assertEqual([ending.answer(text), endless.answer(text), failing.answer(text)],
                                 [found[0] == kind for kind in ("ends", "endless", "fails")])
                for word, machine in words.items():
                    self.assertEqual(machine.answer(text), found == ("fails", word))
            for machine in (ending, endless, failing):
                check_least(self, machine)

    def test_new_lists(self):
        table = compiled("ab", parse_program("ab", "fill {}a; if match(b.*) [fail x] [fill {ba}]"))
        wanted = [("ends", ["{}a", "{ba}"]), ("fails", "x")]
        for _ in range(2):
            rows = table.rows()
            self.assertEqual([outcome for _, outcome in rows], wanted)
            self.assertIs(type(rows[0]), tuple)
            self.assertIs(type(rows[0][1]), tuple)
            rows[0][1][1].append("more")
            rows[0][0].rows()[0][0] = 7
            rows.clear()
            found = table.outcome("a")
            self.assertEqual(found, wanted[0])
            found[1].clear()

    def test_equal(self):
        made = []
        for _, letters, program, table in some_tables(74, 120):
            again = compiled(letters, program)
            self.assertTrue(table == again and not table != again)
            self.assertEqual(compiled(letters, ("block", ("skip",), program)), table)
            self.assertFalse(table == table.rows())
            self.assertFalse(table in (None, 1, "Table", letters, program))
            made.append(table)
        for one in made[:60]:
            for other in made[:60]:
                alike = (one.letters, one.rows()) == (other.letters, other.rows())
                self.assertEqual(one == other, alike)
        one, other = (compiled(letters, ("skip",)) for letters in ("ab", "ba"))
        self.assertNotEqual(one, other)
        self.assertNotEqual(one, compiled("ab", ("fill", "{}")))
        self.assertIs(type(one), Table)

    def test_known_tables(self):
        table = compiled("ab", parse_program("ab", "while not length(0,3) [fill {}{}a]"))
        self.assertEqual([table.outcome("ab"), table.outcome("abab"), len(table)],
                         [("endless",), ("ends", ["{}{}a"]), 3])
        self.assertEqual([outcome for _, outcome in table.rows()],
                         [("ends", []), ("ends", ["{}{}a"]), ("endless",)])
        self.assertEqual(table.result("abab"), "abab" * 2 + "a")
        self.assertEqual(compiled("ab", ("fail", "no")).rows(), [(Machine.always("ab"), ("fails", "no"))])
        self.assertEqual(compiled("ab", ("while", ("match", ".*"), ("skip",))).rows(),
                         [(Machine.always("ab"), ("endless",))])


class Results(unittest.TestCase):
    def test_too_long(self):
        doubling = "; ".join(["fill {}{ba}"] * 12)
        cases = [
            (doubling, "ab", 8192), (doubling, "aba", None), (doubling, "", 0), (doubling + "; fill a{}", "a", 4097),
            (doubling + "; " + doubling + "; fill ab", "aba", 2), (doubling + "; fill {}{}{}; fill -", "aba", 0),
            (doubling + "; fill b; fill {}" + "{ba}" * 9999, "ab", 10000),
            (doubling + "; fill b; fill {}" + "{ba}" * 10000, "ab", None),
            ("fill {}" + "a" * 9990, "a" * 10, 10000), ("fill {}" + "a" * 9990, "a" * 11, None),
        ]
        for text, start, size in cases:
            table = compiled("ab", parse_program("ab", text))
            if size is None:
                with self.assertRaises(TooLong) as caught:
                    table.result(start)
                self.assertEqual(caught.exception.limit, 10000)
                self.assertEqual(table.outcome(start)[0], "ends")
            else:
                self.assertEqual(len(table.result(start)), size)

    def test_long_texts_before_a_short_one(self):
        table = compiled("ab", parse_program("ab", "; ".join(["fill {}{}"] * 90 + ["fill b", "fill {ba}{}b"])))
        self.assertEqual(table.result("ab"), "abb")
        self.assertEqual(len(table.outcome("ab")[1]), 92)

    def test_unknown_letters(self):
        table = compiled("ab", parse_program("ab", "if match(a) [fail x] [while match(b) [skip]]"))
        for call in (table.outcome, table.result, table.sources):
            for text, position in (("c", 0), ("abc", 2), ("b-", 1)):
                with self.assertRaises(UnknownLetter) as caught:
                    call(text)
                self.assertEqual(caught.exception.position, position)


class Blocks(unittest.TestCase):
    def test_against_the_parts(self):
        for random, letters, program, table in some_tables(75, 250, deep=2):
            other = some_program(random, letters, 2)
            try:
                second = compiled(letters, other, limit=400)
                whole = compiled(letters, ("block", program, other), limit=2000)
            except TooMany:
                continue
            for text in short_texts(letters):
                first = table.outcome(text)
                if first[0] != "ends" or fills_size(letters, first[1])[1] > 2000:
                    self.assertTrue(first[0] == "ends" or whole.outcome(text) == first)
                    continue
                now = text
                for fill in first[1]:
                    now = own_fill(letters, fill, now)
                behind = second.outcome(now)
                wanted = ("ends", first[1] + behind[1]) if behind[0] == "ends" else behind
                self.assertEqual(whole.outcome(text), wanted)

    def test_skips_and_brackets(self):
        random = Random(76)
        skip = ("skip",)
        for at in range(200):
            letters = ALL_LETTERS[at % len(ALL_LETTERS)]
            one, two, three = (some_program(random, letters, 1) for _ in range(3))
            try:
                table = compiled(letters, flat(("block", one, two, three)), limit=400)
            except TooMany:
                continue
            for other in (("block", one, ("block", two, three)), ("block", ("block", one, two), three),
                          ("block", skip, one, ("block", two, skip), skip, three),
                          ("block", ("block", one, ("block", two, three)), skip), ("block", one, two, three)):
                self.assertEqual(compiled(letters, other), table)

    def test_the_program_stays(self):
        for _, letters, program, _ in some_tables(77, 50):
            before = repr(program)
            compiled(program=program, letters=letters)
            self.assertEqual(repr(program), before)


class Refused(unittest.TestCase):
    def test_limits(self):
        for _, letters, program, table in some_tables(78, 150):
            many = len(Values(letters, own_conditions(program), fill_turns(letters, program)))
            condition = ("length", 1, 3)
            more = len(Values(letters, own_conditions(program) + [condition], fill_turns(letters, program)))
            for limit in {0, many // 2, many - 1, many, many + 1}:
                if limit >= many:
                    self.assertEqual(compiled(letters, program, limit=limit), table)
                else:
                    with self.assertRaises(TooMany) as caught:
                        compiled(letters, program, limit=limit)
                    self.assertEqual(caught.exception.limit, limit)
            for limit in {0, more // 2, more - 1, more, more + 1}:
                if limit >= more:
                    self.assertEqual(moment_texts(letters, program, condition, limit=limit),
                                     moment_texts(letters, program, condition))
                else:
                    with self.assertRaises(TooMany) as caught:
                        moment_texts(letters, program, condition, limit=limit)
                    self.assertEqual(caught.exception.limit, limit)

    def test_the_limit_that_is_left_out(self):
        program = parse_program("ab", "if length(0,41) [skip] [while length(0,49) [skip]]")
        for call in (lambda **more: compiled("ab", program, **more),
                     lambda **more: moment_texts("ab", program, ("match", ".*"), **more)):
            with self.assertRaises(TooMany) as caught:
                call()
            self.assertEqual(caught.exception.limit, 2000)
            call(limit=2009)

    def test_in_order(self):
        named = parse_program("ab", "while (match(a) or named y) [call x]; call z")
        condition = ("and", ("named", "v"), ("named", "u"))
        for letters in BAD_LETTERS:
            with self.subTest(letters), self.assertRaises(InvalidLetters):
                compiled(letters, named, limit=0)
            with self.subTest(letters), self.assertRaises(InvalidLetters):
                moment_texts(letters, named, condition, limit=0)
        for call in (lambda: compiled("ab", named, limit=0), lambda: moment_texts("ab", named, condition, limit=0)):
            with self.assertRaises(UnknownName) as caught:
                call()
            self.assertEqual(caught.exception.name, "y")
        with self.assertRaises(UnknownName) as caught:
            moment_texts("ab", ("skip",), condition, limit=0)
        self.assertEqual(caught.exception.name, "v")


TRANSLATED = {"ab": "xq", "ba": "mz", "abc": "zmk", "cab": "bac", "abcd": "dacb"}


def translated(program, table):
    """The program with other letters in its templates and patterns."""
    kind, *parts = program
    if kind in ("fail", "skip", "length"):
        return program
    return (kind, *(part.translate(table) if isinstance(part, str) else translated(part, table) for part in parts))


class OtherLetters(unittest.TestCase):
    def test_letter_by_letter(self):
        random = Random(79)
        for at in range(200):
            letters, others = random.choice(list(TRANSLATED.items()))
            signs = str.maketrans(letters, others)
            program = some_program(random, letters, random.randint(1, 3))
            try:
                one = compiled(letters, program, limit=400)
            except TooMany:
                continue
            other = compiled(others, translated(program, signs), limit=400)
            self.assertEqual(len(one), len(other))
            for (first, outcome), (second, found) in zip(one.rows(), other.rows()):
                self.assertEqual((first.rows(), first.answers()), (second.rows(), second.answers()))
                if outcome[0] == "ends":
                    outcome = ("ends", [fill.translate(signs) for fill in outcome[1]])
                self.assertEqual(outcome, found)
            text = some_text(random, letters, 5)
            if one.outcome(text)[0] == "ends" and sum(fills_size(letters, one.outcome(text)[1])) < 1000:
                self.assertEqual(one.result(text).translate(signs), other.result(text.translate(signs)))


if __name__ == "__main__":
    unittest.main()
