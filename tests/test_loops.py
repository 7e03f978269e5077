"""[14]: tables of loops."""

import unittest
from random import Random

from ownfill.chains import fills_letter, fills_size
from ownfill.conditions import condition_machine
from ownfill.errors import TooLong, TooMany
from ownfill.programs import parse_program
from ownfill.tables import compiled, parted
from tests.program_models import agrees, own_outcome, some_program, some_small
from tests.samples import ALL_LETTERS, texts_up_to
from tests.test_tables import short_texts


def some_loops(seed, many, deep=2, limit=400):
    """Conditions and bodies with the tables of their loops."""
    random = Random(seed)
    for at in range(many):
        letters = ALL_LETTERS[at % len(ALL_LETTERS)]
        condition, body = some_small(random, letters), some_program(random, letters, random.randint(0, deep))
        try:
            yield random, letters, condition, body, compiled(letters, ("while", condition, body), limit=limit)
        except TooMany:
            continue


class Laws(unittest.TestCase):
    def test_endless_texts(self):
        seen = 0
        for _, letters, condition, body, table in some_loops(81, 300):
            inner, holds = compiled(letters, body), condition_machine(letters, condition)
            endless = table.endless()
            self.assertEqual(endless, holds & (inner.endless() | inner.before(endless)))
            seen += len(endless) > 1
        self.assertGreater(seen, 50)

    def test_one_round_and_then_the_loop(self):
        for _, letters, condition, body, table in some_loops(82, 300):
            loop = ("while", condition, body)
            choice = compiled(letters, ("if", condition, ("block", body, loop), ("skip",)))
            self.assertEqual(choice, table)
            self.assertIsNone(parted(choice, table, limit=10 ** 9))

    def test_a_loop_behind_itself(self):
        for _, letters, condition, body, table in some_loops(83, 200):
            loop = ("while", condition, body)
            self.assertEqual(compiled(letters, ("block", loop, loop)), table)
            self.assertEqual(compiled(letters, ("while", condition, loop)).ending(), table.ending())


class Examples(unittest.TestCase):
    def check(self, letters, text, most):
        program = parse_program(letters, text)
        table = compiled(letters, program)
        kinds = set()
        for start in texts_up_to(letters, most):
            own, last = own_outcome(letters, program, start)
            found = table.outcome(start)
            self.assertTrue(agrees(own, found), (text, start, own, found))
            kinds.add(found[0])
            if own[0] == "ends":
                self.assertEqual(table.result(start), last)
        return kinds

    def test_loops_in_one_another(self):
        self.assertEqual(self.check("ab", "while not length(0,4) [while not length(0,3) [fill {}a]; fill {}b]", 6),
                         {"ends"})
        self.assertEqual(self.check("ab", "while not length(0,6) [while not length(0,2) [fill {}a]; fill {}bb]", 6),
                         {"ends"})
        self.assertEqual(self.check("ab", "while not length(0,6) [while not length(0,3) [fill {}a]; fill {}bbb]", 6),
                         {"ends"})
        self.assertEqual(self.check("ab", "while not length(1,6) [while not length(0,3) [fill {}a]; fill {}bbb]", 7),
                         {"ends", "endless"})
        self.assertEqual(self.check("ab", "while match(a.*) [while match(.*b) [fill {ba}]; fill {}a]", 5),
                         {"ends", "endless"})
        self.assertEqual(self.check("abc", "while not length(0,5) [while not length(0,2) [while match(a.*) [fill "
                                    "{bca}]; fill c{}]; fill {}b]; if match(a.*) [fail no] [skip]", 4),
                         {"ends", "fails"})

    def test_two_equal_loops_at_two_places(self):
        loop = "while not length(0,3) [fill {}a]"
        self.assertEqual(self.check("ab", loop + "; fill {}b; " + loop, 6), {"ends"})
        self.assertEqual(self.check("ab", loop + "; fill {}bb; " + loop + "; fill {}b; " + loop, 5), {"ends"})
        loop = "while match(a*) [fill {ba}]"
        self.assertEqual(self.check("ab", loop + "; fill {ba}; " + loop, 5), {"ends", "endless"})
        self.assertEqual(self.check("ab", "if length(0,2) [" + loop + "] [fill a; " + loop + "]", 5),
                         {"ends", "endless"})

    def test_a_loop_passed_through_twice(self):
        inner = "while not length(0,3) [fill {}a]"
        self.assertEqual(self.check("ab", "while not length(0,5) [" + inner + "; fill {}b]", 8), {"ends"})
        self.assertEqual(self.check("ab", "while not length(0,7) [" + inner + "; fill {}bb]", 8), {"ends"})
        self.assertEqual(self.check("ab", "while not length(0,3) [" + inner + "]", 6), {"ends"})
        self.assertEqual(self.check("ab", "while match(.*a) [" + inner + "; if length(0,2) [fill b{}b] [skip]]", 6),
                         {"ends", "endless"})

    def test_own_runs(self):
        for _, letters, condition, body, table in some_loops(84, 300):
            for text in short_texts(letters):
                own, _ = own_outcome(letters, ("while", condition, body), text)
                self.assertTrue(agrees(own, table.outcome(text)), (letters, condition, body, text))

    def test_a_body_that_does_nothing(self):
        table = compiled("ab", parse_program("ab", "while length(1,2) [skip]; fill b"))
        self.assertEqual([table.outcome("a"), table.outcome("ab")], [("endless",), ("ends", ["b"])])


class Rests(unittest.TestCase):
    """Loops that double or lengthen a text until its length leaves a rest."""

    def own_fills(self, size, blanks, fixed, rest, modulus):
        """How many rounds there are, and the size behind them; None if the rests come back."""
        met, many = set(), 0
        while size % modulus != rest:
            if size % modulus in met:
                return None
            met.add(size % modulus)
            size = size * blanks + fixed
            many += 1
        return many, size

    def check(self, fill, rest, modulus, sizes):
        blanks = fill.count("{")
        fixed = len(fill.replace("{}", "").replace("{ba}", ""))
        table = compiled("ab", parse_program("ab", "while not length(%d,%d) [fill %s]" % (rest, modulus, fill)))
        most = 0
        for size in sizes:
            text = ("ab" * size)[:size]
            own = self.own_fills(size, blanks, fixed, rest, modulus)
            if own is None:
                self.assertEqual(table.outcome(text), ("endless",))
                self.assertIsNone(table.result(text))
                continue
            many, last = own
            self.assertEqual(table.outcome(text), ("ends", [fill] * many))
            found = fills_size("ab", table.outcome(text)[1])
            self.assertEqual(found[0], blanks ** many)
            self.assertEqual(found[0] * size + found[1], last)
            if last > 10000:
                with self.assertRaises(TooLong) as caught:
                    table.result(text)
                self.assertEqual(caught.exception.limit, 10000)
            else:
                self.assertEqual(len(table.result(text)), last)
            if last > 0 and len(str(last)) <= 30:
                self.check_letters([fill] * many, text, last)
            most = max(most, many)
        return most

    def check_letters(self, fills, text, length):
        """The first letters and some far ones, by an own way through the doublings."""
        for place in {0, length - 1, length // 2, length // 3}:
            sizes = [len(text)]
            for fill in fills:
                sizes.append(sizes[-1] * fill.count("{") + len(fill.replace("{}", "").replace("{ba}", "")))
            at, turns, letter = place, 0, None
            for fill, size in zip(reversed(fills), reversed(sizes[:-1])):
                rest = fill
                while rest:
                    blank = "{ba}" if rest.startswith("{ba}") else "{}" if rest.startswith("{}") else None
                    width = 1 if blank is None else size
                    if at < width:
                        letter = rest[0] if blank is None else None
                        turns += blank == "{ba}"
                        break
                    at -= width
                    rest = rest[len(blank or "x"):]
                if letter is not None:
                    break
            letter = text[at] if letter is None else letter
            wanted = letter if turns % 2 == 0 else "ba"["ab".index(letter)]
            self.assertEqual(fills_letter("ab", fills, text, place), wanted)

    def test_doubling(self):
        self.assertEqual(self.check("{}{}a", 0, 59, range(120)), 57)
        self.assertEqual(self.check("{}{ba}", 1, 59, range(1, 60)), 57)
        self.assertEqual(self.check("{ba}{}", 1, 53, range(1, 60, 7)), 50)
        self.check("b{}{ba}a", 5, 37, range(0, 80, 3))
        self.check("{}{}", 0, 60, range(0, 65))
        self.check("{}{}{ba}", 1, 31, range(0, 65, 2))

    def test_lengthening(self):
        self.assertEqual(self.check("{}a", 0, 59, range(70)), 58)
        self.assertEqual(self.check("b{ba}a", 0, 59, range(0, 70, 3)), 57)
        self.assertEqual(self.check("{}aaa", 58, 59, range(60)), 58)
        self.check("{}aa", 3, 60, range(65))
        for modulus in range(2, 60, 6):
            self.check("{ba}a", modulus - 1, modulus, range(0, 65, 9))


if __name__ == "__main__":
    unittest.main()
