"""[15]: the moments of runs."""

import unittest
from random import Random

from ownfill.conditions import condition_machine
from ownfill.errors import TooMany
from ownfill.machines import Machine
from ownfill.programs import parse_program
from ownfill.tables import compiled, moment_texts
from tests.models import check_least
from tests.program_models import Stopped, own_holds, own_steps, some_program, some_small, some_turn_of
from tests.samples import ALL_LETTERS
from tests.test_tables import short_texts

STEPS = 240


def slowed(random, letters, program):
    """The program with fills that have at most one blank, so that texts get long slowly."""
    kind = program[0]
    if kind == "fill":
        turn = some_turn_of(random, letters)
        ends = [random.choice([*letters, ""]) for _ in range(2)]
        return ("fill", random.choice([ends[0] + turn, turn + ends[0], turn, turn, ends[0] + ends[1] or "-"]))
    if kind == "block":
        return ("block", *(slowed(random, letters, part) for part in program[1:]))
    if kind in ("if", "while"):
        return (kind, program[1], *(slowed(random, letters, part) for part in program[2:]))
    return program


def own_moments(letters, program, text, condition):
    """Whether there is a moment with the condition, and whether there are some even late in a long run."""
    steps, found = [0], []

    def asked(now):
        if own_holds(letters, condition, now):
            found.append(steps[0])

    try:
        for _ in own_steps(letters, program, text, asked):
            steps[0] += 1
            if steps[0] == STEPS:
                break
    except Stopped:
        pass
    late = steps[0] == STEPS and any(step > STEPS // 2 for step in found)
    return bool(found), late


def some_cases(seed, many):
    random = Random(seed)
    for at in range(many):
        letters = ALL_LETTERS[at % len(ALL_LETTERS)]
        program = slowed(random, letters, some_program(random, letters, random.randint(1, 3)))
        condition = some_small(random, letters)
        try:
            machines = [moment_texts(letters, program, condition, limit=60),
                        moment_texts(letters, program, condition, again=True, limit=60)]
        except TooMany:
            continue
        yield letters, program, condition, machines


class Moments(unittest.TestCase):
    def test_by_own_runs(self):
        seen = {}
        for letters, program, condition, machines in some_cases(111, 400):
            for machine in machines:
                check_least(self, machine)
                self.assertEqual(machine.letters, letters)
            for text in short_texts(letters)[:25]:
                own = own_moments(letters, program, text, condition)
                found = tuple(machine.answer(text) for machine in machines)
                self.assertEqual(found, own, (letters, program, condition, text))
                seen[own] = seen.get(own, 0) + 1
        self.assertEqual(len(seen), 3)
        self.assertGreater(min(seen.values()), 200)

    def test_growing_texts(self):
        random = Random(112)
        for at in range(200):
            letters = ALL_LETTERS[at % len(ALL_LETTERS)]
            program, condition = some_program(random, letters, 2), some_small(random, letters)
            try:
                machine = moment_texts(letters, program, condition, limit=300)
                table = compiled(letters, program)
            except TooMany:
                continue
            for text in short_texts(letters):
                if table.outcome(text)[0] == "endless" or len(table.outcome(text)) < 2:
                    continue
                if table.outcome(text)[0] == "ends" and len(table.outcome(text)[1]) > 6:
                    continue
                self.assertEqual(machine.answer(text), own_moments(letters, program, text, condition)[0])

    def test_never_and_always(self):
        for letters, program, condition, machines in some_cases(113, 200):
            always = ("match", ".*")
            never = ("and", condition, ("not", condition))
            self.assertEqual(moment_texts(letters, program, never), Machine.never(letters))
            self.assertEqual(moment_texts(letters, program, never, again=True), Machine.never(letters))
            # A run is endless if and only if it has endlessly many moments.
            self.assertEqual(moment_texts(letters, program, always, again=True), compiled(letters, program).endless())
            self.assertEqual(moment_texts(letters, program, condition, again=False), machines[0])
            self.assertEqual(moment_texts(limit=60, again=True, condition=condition, program=program, letters=letters),
                             machines[1])
            self.assertEqual(machines[1] & ~machines[0], Machine.never(letters))
            other = moment_texts(letters, program, ("not", condition), again=True)
            self.assertEqual(machines[1] | other, compiled(letters, program).endless())

    def test_known_ones(self):
        loop = parse_program("ab", "while not length(0,3) [fill {}a]")
        never, always = Machine.never("ab"), Machine.always("ab")
        for condition, again, wanted in ((("length", 0, 3), False, always), (("length", 0, 3), True, never),
                                         (("match", ".*"), True, never), (("match", ".*"), False, always),
                                         (("match", "b*"), False, condition_machine("ab", ("match", "b*"))),
                                         (("match", "a|aa"), False, condition_machine("ab", ("match", "a|aa")))):
            self.assertEqual(moment_texts("ab", loop, condition, again=again), wanted)
        endless = parse_program("ab", "while match(.*) [fill {ba}a]")
        self.assertEqual(moment_texts("ab", endless, ("match", ".*b"), again=True), Machine.never("ab"))
        self.assertEqual(moment_texts("ab", endless, ("match", ".*b")), condition_machine("ab", ("match", ".*b")))
        self.assertEqual(moment_texts("ab", endless, ("length", 4, 5), again=True), Machine.always("ab"))
        self.assertEqual(moment_texts("ab", parse_program("ab", "if match(a) [skip] [fill b]"), ("match", ".*")),
                         Machine.never("ab"))


if __name__ == "__main__":
    unittest.main()
