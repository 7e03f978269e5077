"""[14]: before, sources and most_fills."""

import unittest

from ownfill.chains import fills_size
from ownfill.errors import LettersDiffer, UnknownLetter
from ownfill.machines import Machine
from ownfill.programs import parse_program
from ownfill.tables import compiled
from tests.models import check_least, some_rooms
from tests.program_models import own_fill, own_outcome
from tests.samples import some_text, texts_up_to
from tests.test_tables import short_texts, some_tables


def last_texts(letters, program, table):
    """For each short text the text with which the program ends, or None; those whose runs got too long are left out."""
    lasts = {}
    for text in short_texts(letters):
        own, last = own_outcome(letters, program, text)
        if own[0] == "ends":
            lasts[text] = last
        elif own[0] == "fails" or table.outcome(text)[0] == "endless":
            lasts[text] = None
    return lasts


class Before(unittest.TestCase):
    def test_by_own_runs(self):
        for random, letters, program, table in some_tables(91, 400):
            lasts = last_texts(letters, program, table)
            for _ in range(2):
                rows, answers = some_rooms(random, letters, 2)
                machine = Machine(letters, rows, answers)
                found = table.before(machine)
                check_least(self, found)
                for text, last in lasts.items():
                    self.assertEqual(found.answer(text), last is not None and machine.answer(last))
                self.assertEqual(table.before(machine=machine), found)
                self.assertEqual(machine, Machine(letters, rows, answers))

    def test_all_and_none(self):
        for _, letters, program, table in some_tables(92, 150):
            self.assertEqual(table.before(Machine.always(letters)), table.ending())
            self.assertEqual(table.before(Machine.never(letters)), Machine.never(letters))

    def test_laws(self):
        for random, letters, program, table in some_tables(93, 100):
            one, other = (Machine(letters, *some_rooms(random, letters, 2)) for _ in range(2))
            self.assertEqual(table.before(one & other), table.before(one) & table.before(other))
            self.assertEqual(table.before(one | other), table.before(one) | table.before(other))
            self.assertEqual(table.before(~one), table.ending() & ~table.before(one))

    def test_long_chains(self):
        table = compiled("ab", parse_program("ab", "while not length(0,59) [fill {}{ba}a]"))
        ends_in_a = Machine("ab", [[1, 0], [1, 0]], [False, True])
        # All fills end with a, and a text that is not filled ends as it does.
        filled = compiled("ab", parse_program("ab", "if length(0,59) [fail x] [skip]")).ending()
        self.assertEqual(table.before(ends_in_a), table.ending() & (ends_in_a | filled))

    def test_other_letters(self):
        table = compiled("ab", ("skip",))
        for letters in ("ba", "abc", "xy"):
            for made in (table, compiled("ab", ("fail", "x"))):
                with self.assertRaises(LettersDiffer):
                    made.before(Machine.always(letters))


class Sources(unittest.TestCase):
    def test_against_short_texts(self):
        for random, letters, program, table in some_tables(94, 300):
            lasts = last_texts(letters, program, table)
            ends = sorted({last for last in lasts.values() if last is not None and len(last) <= 300})
            asked = random.sample(ends, min(4, len(ends))) + [some_text(random, letters, 6), ""]
            for wanted in asked:
                found = table.sources(wanted)
                check_least(self, found)
                for text, last in lasts.items():
                    self.assertEqual(found.answer(text), last == wanted, (letters, program, text, wanted))
            self.assertEqual(table.sources(text=asked[0]), table.sources(asked[0]))
            wanted = random.choice(asked)
            if len(wanted) < 8:
                self.assertEqual(table.sources(wanted), table.before(Machine.only(letters, wanted)))

    def test_long_texts(self):
        for text in ("ab" * 20 + "a", "a" * 41, "b" + "a" * 40, "ab" * 150):
            table = compiled("ab", parse_program("ab", "if match(a.*) [fill {ba}b{}] [fill {}{}]"))
            half, rest = divmod(len(text), 2)
            wanted = Machine.never("ab")
            for start in {"".join("ba"["ab".index(letter)] for letter in text[:half]), text[:half]}:
                own, last = own_outcome("ab", parse_program("ab", "if match(a.*) [fill {ba}b{}] [fill {}{}]"), start)
                if last == text:
                    wanted = wanted | Machine.only("ab", start)
            self.assertEqual(table.sources(text), wanted)
            same = compiled("ab", parse_program("ab", "fill {ba}; while not length(0,3) [fill {}b]"))
            filled = own_fill("ab", "{ba}", text)
            self.assertEqual(same.sources(filled).answer(text), len(text) % 3 == 0)

    def test_fills_without_blanks(self):
        table = compiled("ab", parse_program("ab", "if length(0,2) [fill {}a; fill ab] [fill ab; fill {ba}]"))
        even = compiled("ab", parse_program("ab", "if length(0,2) [skip] [fail odd]")).ending()
        self.assertEqual(table.sources("ab"), even)
        self.assertEqual(table.sources("ba"), ~even)
        self.assertEqual(table.sources("aba"), Machine.never("ab"))
        self.assertEqual(compiled("ab", ("fill", "-")).sources(""), Machine.always("ab"))
        self.assertEqual(compiled("ab", ("fill", "{}{ba}")).sources(""), Machine.only("ab", ""))
        self.assertEqual(compiled("ab", ("skip",)).sources("abba"), Machine.only("ab", "abba"))
        self.assertEqual(compiled("ab", ("fail", "x")).sources("abba"), Machine.never("ab"))

    def test_unknown_letters(self):
        for program in (("skip",), ("fail", "x"), ("fill", "a"), ("while", ("match", ".*"), ("skip",))):
            for text, position in (("c", 0), ("abc", 2)):
                with self.assertRaises(UnknownLetter) as caught:
                    compiled("ab", program).sources(text)
                self.assertEqual(caught.exception.position, position)


class MostFills(unittest.TestCase):
    def test_by_the_rows_and_own_runs(self):
        none = 0
        for _, letters, program, table in some_tables(95, 500):
            found = table.most_fills()
            ending = [(len(outcome[1]), machine) for machine, outcome in table.rows() if outcome[0] == "ends"]
            if not ending:
                self.assertIsNone(found)
                none += 1
                continue
            most = max(many for many, _ in ending)
            texts = [machine.least_text(True) for many, machine in ending if many == most]
            least = min(texts, key=lambda text: (len(text), [letters.index(letter) for letter in text]))
            self.assertEqual(found, (most, least))
            self.assertIs(type(found), tuple)
            for text in short_texts(letters):
                own, _ = own_outcome(letters, program, text)
                if own[0] == "ends":
                    self.assertLessEqual(len(own[1]), most)
                    if text == least:
                        self.assertEqual(len(own[1]), most)
                        break
                    self.assertLess(len(own[1]), most)
        self.assertGreater(none, 5)

    def test_known_ones(self):
        cases = {"skip": (0, ""), "fill a": (1, ""), "fail x": None, "while match(.*) [skip]": None,
                 "while not length(0,59) [fill {}a]": (58, "a"), "if match(bab) [fill a; fill b] [fill a]": (2, "bab"),
                 "if match(ba|b) [fill a; fill b] [fail x]": (2, "b")}
        for text, wanted in cases.items():
            self.assertEqual(compiled("ab", parse_program("ab", text)).most_fills(), wanted)
        self.assertEqual(compiled("ba", parse_program("ba", "if match(a|b) [fill a] [skip]")).most_fills(), (1, "b"))

    def test_sizes_of_the_most(self):
        table = compiled("ab", parse_program("ab", "while not length(0,59) [fill {}{}a]"))
        many, text = table.most_fills()
        self.assertEqual(many, 57)
        self.assertEqual(fills_size("ab", table.outcome(text)[1])[0], 2 ** 57)
        self.assertIn(text, texts_up_to("a", 59))


if __name__ == "__main__":
    unittest.main()
