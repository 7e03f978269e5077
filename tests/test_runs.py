"""[12]: runs, step by step and back."""

import unittest
from random import Random

from ownfill.errors import InvalidLetters, NothingLeft, TooLong, UnknownLetter, UnknownName
from ownfill.programs import parse_program
from ownfill.running import MOST_TEXT, Run
from tests.program_models import Stopped, own_steps, some_program
from tests.samples import ALL_LETTERS, BAD_LETTERS, some_text


def some_runs(seed, many, deep=3):
    random = Random(seed)
    for at in range(many):
        letters = ALL_LETTERS[at % len(ALL_LETTERS)]
        program = some_program(random, letters, random.randint(0, deep), nested=random.random() < 0.5)
        yield random, letters, program, some_text(random, letters, 4)


def own_states(letters, program, text, most):
    """The list of (present, state, word) before the first step and behind each one, at most so many steps."""
    states = [(text, "running", None)]
    steps = own_steps(letters, program, text)
    try:
        for _ in range(most):
            states.append((next(steps)[0], "running", None))
        next(steps)
    except StopIteration:
        states[-1] = (states[-1][0], "ended", None)
    except Stopped as stopped:
        states[-1] = (states[-1][0], "failed", stopped.args[0])
    return states


def seen(run):
    return (run.present, run.state, run.word)


class Steps(unittest.TestCase):
    def check(self, run, states, steps):
        self.assertEqual(seen(run), states[steps])
        self.assertEqual(run.steps, steps)
        self.assertEqual(repr(run), "Run(%d steps, %s)" % (steps, states[steps][1]))

    def test_each_step(self):
        last = {}
        for _, letters, program, text in some_runs(41, 800):
            states = own_states(letters, program, text, 12)
            run = Run(letters, program, text)
            for steps in range(len(states)):
                self.check(run, states, steps)
                if steps + 1 < len(states):
                    self.assertIsNone(run.step())
            last[run.state] = last.get(run.state, 0) + 1
            if run.state != "running":
                for _ in range(2):
                    with self.assertRaises(NothingLeft):
                        run.step()
                    self.check(run, states, len(states) - 1)
        self.assertGreater(min(last.values()), 50)
        self.assertEqual(len(last), 3)

    def test_go(self):
        for random, letters, program, text in some_runs(42, 600):
            states = own_states(letters, program, text, 12)
            run = Run(text=text, program=program, letters=letters)
            done = 0
            while done < 12:
                many = min(12 - done, random.choice([0, 1, 2, 3, 12]))
                most = len(states) - 1
                made = run.go(many) if random.random() < 0.5 else run.go(many=many)
                self.assertEqual(made, min(many, most - done))
                done += made
                self.check(run, states, done)
                if done == most:
                    break
            if run.state != "running":
                self.assertEqual(run.go(100), 0)
                self.assertEqual(run.go(0), 0)
                self.check(run, states, done)

    def test_more_than_there_are(self):
        for _, letters, program, text in some_runs(43, 400, 2):
            states = own_states(letters, program, text, 12)
            if states[-1][1] != "running":
                run = Run(letters, program, text)
                self.assertEqual(run.go(1000), len(states) - 1)
                self.check(run, states, len(states) - 1)

    def test_all_back_and_again(self):
        for _, letters, program, text in some_runs(44, 500):
            states = own_states(letters, program, text, 12)
            run = Run(letters, program, text)
            with self.assertRaises(NothingLeft):
                run.back()
            self.check(run, states, 0)
            for _ in range(2):
                self.assertEqual(run.go(len(states) - 1), len(states) - 1)
                for steps in reversed(range(len(states) - 1)):
                    self.assertIsNone(run.back())
                    self.check(run, states, steps)
                with self.assertRaises(NothingLeft):
                    run.back()
                self.check(run, states, 0)

    def test_back_and_forth(self):
        for random, letters, program, text in some_runs(45, 500):
            states = own_states(letters, program, text, 12)
            run = Run(letters, program, text)
            at = 0
            for _ in range(30):
                if random.random() < 0.6 and at + 1 < len(states):
                    run.step()
                    at += 1
                elif at > 0:
                    run.back()
                    at -= 1
                self.check(run, states, at)

    def test_runs_are_apart(self):
        program = parse_program("ab", "while not length(0,5) [fill {}a]; fail x")
        one, other = Run("ab", program, "a"), Run("ab", program, "a")
        one.go(4)
        self.assertEqual(seen(other), ("a", "running", None))
        other.go(100)
        self.assertEqual((seen(one), one.steps), (("aaa", "running", None), 4))
        self.assertEqual(seen(other), ("aaaaa", "failed", "x"))
        other.back()
        self.assertEqual(seen(other), ("aaaaa", "running", None))


class Long(unittest.TestCase):
    def check(self, fill, text):
        """Doubles or triples a text as long as it goes."""
        run = Run("ab", parse_program("ab", "while match(.*) [fill " + fill + "]"), text)
        now, steps = text, 0
        while True:
            run.step()
            longer = fill.replace("{}", now).replace("{ba}", "".join("ba"["ab".index(letter)] for letter in now))
            if len(longer) > 10000:
                break
            run.step()
            now, steps = longer, steps + 2
            self.assertEqual((seen(run), run.steps), ((now, "running", None), steps))
        for _ in range(2):
            with self.assertRaises(TooLong) as caught:
                run.step()
            self.assertEqual(caught.exception.limit, 10000)
            self.assertEqual((seen(run), run.steps), ((now, "running", None), steps + 1))
        again = Run("ab", parse_program("ab", "while match(.*) [fill " + fill + "]"), text)
        with self.assertRaises(TooLong) as caught:
            again.go(1000)
        self.assertEqual(caught.exception.limit, 10000)
        self.assertEqual((seen(again), again.steps), ((now, "running", None), steps + 1))
        with self.assertRaises(TooLong):
            again.go(1)
        self.assertEqual(again.go(0), 0)
        again.back()
        self.assertEqual((again.present, again.steps), (now, steps))
        return len(now)

    def test_around_ten_thousand(self):
        self.assertEqual(MOST_TEXT, 10000)
        self.assertEqual(self.check("{}{ba}", "ab" * 125 + "a" * 62), 9984)
        self.assertEqual(self.check("{}{}", "a" * 5), 5 * 1024)
        self.assertEqual(self.check("{}{ba}{}", "abb"), 6561)
        self.assertEqual(self.check("{}{}{}a", "a"), 9841)

    def test_exactly(self):
        for text, fill, size in (("a" * 100, "{}" * 100, 10000), ("a" * 100, "{}" * 100 + "a", None),
                                 ("b" * 100, "{}" * 99 + "a" * 100, 10000), ("ab", "{}" * 5000, 10000),
                                 ("aba", "{}" * 3333 + "a", 10000), ("aba", "{}" * 3333 + "ab", None)):
            run = Run("ab", ("block", ("fill", fill), ("fail", "end")), text)
            if size is None:
                with self.assertRaises(TooLong) as caught:
                    run.go(2)
                self.assertEqual(caught.exception.limit, 10000)
                self.assertEqual((run.present, run.state, run.steps), (text, "running", 0))
            else:
                self.assertEqual(run.go(5), 2)
                self.assertEqual((len(run.present), run.state, run.word), (size, "failed", "end"))

    def test_conditions_on_long_texts(self):
        program = parse_program("ab", "fill " + "{}" * 40 + "; if (same(a{},{}a) and ends(-,{})) [fail same] [skip]")
        run = Run("ab", program, "a" * 250)
        run.go(9)
        self.assertEqual((run.state, run.word, len(run.present)), ("failed", "same", 10000))
        run = Run("ab", program, "a" * 249 + "b")
        run.go(9)
        self.assertEqual((run.state, run.word), ("ended", None))

    def test_many_steps(self):
        run = Run("ab", parse_program("ab", "while match(.*) [fill {ba}]"), "ab")
        self.assertEqual(run.go(5001), 5001)
        self.assertEqual((run.present, run.state, run.steps), ("ab", "running", 5001))
        for _ in range(5001):
            run.back()
        self.assertEqual((run.present, run.steps), ("ab", 0))


class Refused(unittest.TestCase):
    def test_in_order(self):
        named = parse_program("ab", "while (match(a) or named y) [call x]; call z")
        for letters in BAD_LETTERS:
            with self.subTest(letters), self.assertRaises(InvalidLetters):
                Run(letters, named, "?")
        for text in ("", "ab", "xyz"):
            with self.assertRaises(UnknownName) as caught:
                Run("ab", named, text)
            self.assertEqual(caught.exception.name, "y")
        with self.assertRaises(UnknownName) as caught:
            Run("ab", ("block", ("skip",), ("block", ("call", "u"), ("call", "v"))), "?")
        self.assertEqual(caught.exception.name, "u")
        for text, position in (("x", 0), ("abax", 3), ("aB", 1)):
            with self.assertRaises(UnknownLetter) as caught:
                Run("ab", ("skip",), text)
            self.assertEqual(caught.exception.position, position)


if __name__ == "__main__":
    unittest.main()
