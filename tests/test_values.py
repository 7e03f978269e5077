"""[13]: the values for some conditions and turns."""

import unittest
from itertools import product
from random import Random

from ownfill.conditions import condition_holds, parse_condition
from ownfill.errors import InvalidLetters, TooMany, UnknownLetter, UnknownName
from ownfill.machines import Machine
from ownfill.templates import Template
from ownfill.values import MOST_VALUES, Values
from tests.models import check_least
from tests.program_models import own_fill, own_holds, small_condition, some_fill, some_small
from tests.samples import ALL_LETTERS, BAD_LETTERS, all_turns, model_turned, some_text, texts_up_to

DEEP = {2: 6, 3: 4, 4: 3}
AROUND = {2: 3, 3: 2, 4: 1}


def own_turns(letters, turns):
    """The turns made, by doing the given ones after all that are made until nothing is new."""
    made = {letters}
    while True:
        more = made | {model_turned(letters, turn, one) for one in made for turn in turns}
        if more == made:
            return made
        made = more


def own_mark(letters, conditions, turns, text, around):
    """What the conditions say of a text, turned and between short texts: equal for texts with the same value."""
    return tuple(own_holds(letters, condition, left + model_turned(letters, turn, text) + right)
                 for condition in conditions for turn in sorted(turns) for left in around for right in around)


def some_cases(seed, many, conditions=3, turns=2):
    random = Random(seed)
    for at in range(many):
        letters = ALL_LETTERS[at % len(ALL_LETTERS)]
        asked = [some_small(random, letters) for _ in range(random.randint(1, conditions))]
        given = [random.choice(all_turns(letters)) for _ in range(random.randint(0, turns))]
        yield random, letters, asked, given


def values_or_none(letters, conditions, turns, limit=300):
    try:
        return Values(letters, conditions, turns, limit=limit)
    except TooMany:
        return None


class Numbers(unittest.TestCase):
    def test_the_order_of_the_least_texts(self):
        for random, letters, conditions, turns in some_cases(61, 200):
            values = values_or_none(letters, conditions, turns)
            if values is None:
                continue
            self.assertEqual(values.letters, letters)
            firsts = [values.first_text(value) for value in range(len(values))]
            order = sorted(firsts, key=lambda text: (len(text), [letters.index(letter) for letter in text]))
            self.assertEqual(firsts, order)
            self.assertEqual(firsts[0], "")
            self.assertEqual([values.value_of(text) for text in firsts], list(range(len(values))))
            met = {}
            for text in texts_up_to(letters, DEEP[len(letters)]):
                value = values.value_of(text)
                met.setdefault(value, text)
                self.assertEqual(met[value], values.first_text(value))
            self.assertEqual(list(met), list(range(len(met))))
            words = "Values(%d values, %d turns)" % (len(firsts), len(own_turns(letters, turns)))
            self.assertEqual(repr(values), words)

    def test_holds(self):
        for random, letters, conditions, turns in some_cases(62, 200):
            values = values_or_none(letters, conditions, turns)
            if values is None:
                continue
            for text in texts_up_to(letters, DEEP[len(letters)] - 1):
                found = values.holds(values.value_of(text))
                self.assertEqual(found, [own_holds(letters, condition, text) for condition in conditions])
                self.assertIs(type(found), list)
                found.clear()
                self.assertEqual(len(values.holds(value=values.value_of(text=text))), len(conditions))
            for value in range(len(values)):
                text = values.first_text(value=value)
                self.assertEqual(values.holds(value), [condition_holds(letters, one, text) for one in conditions])

    def test_machine_with(self):
        for random, letters, conditions, turns in some_cases(63, 150):
            values = values_or_none(letters, conditions, turns)
            if values is None:
                continue
            answers = [random.choice(["x", "y", True]) for _ in range(len(values))]
            kept = list(answers)
            machine = values.machine_with(answers)
            self.assertIs(type(machine), Machine)
            check_least(self, machine)
            self.assertEqual(machine.letters, letters)
            self.assertEqual(values.machine_with(answers=tuple(answers)), machine)
            self.assertEqual(answers, kept)
            for text in texts_up_to(letters, DEEP[len(letters)] - 1):
                self.assertEqual(machine.answer(text), kept[values.value_of(text)])

    def test_known_values(self):
        values = Values("ab", [("length", 0, 3)])
        self.assertEqual([len(values), repr(values)], [3, "Values(3 values, 1 turns)"])
        self.assertEqual([values.first_text(value) for value in range(3)], ["", "a", "aa"])
        self.assertEqual(values.value_of("b" * 300), 0)
        self.assertEqual(len(Values("ab", [("match", "a*")])), 2)
        self.assertEqual(len(Values("ab", [("match", "a*")], ["ba"])), 4)
        self.assertEqual(repr(Values("abcd", [], ["bcda", "bacd"])), "Values(1 values, 24 turns)")
        self.assertEqual(len(Values("ab", [("match", "a.*")])), 3)
        self.assertEqual(len(Values("ab", [("and", ("length", 0, 59), ("not", ("length", 0, 59)))])), 1)

    def test_the_least_ones_of_long_rounds(self):
        values = Values("ab", [("length", 0, 40), ("length", 3, 41)])
        self.assertEqual(len(values), 1640)
        self.assertEqual(values.first_text(1639), "a" * 1639)
        self.assertEqual(values.holds(values.value_of("ab" * 22)), [False, True])
        self.assertEqual(values.holds(values.value_of("ab" * 20)), [True, False])

    def test_passed_lists(self):
        conditions, turns = [("match", "a*"), ("length", 1, 2)], ["bca"]
        values = Values("abc", conditions, turns)
        firsts = [values.first_text(value) for value in range(len(values))]
        truths = [values.holds(value) for value in range(len(values))]
        self.assertEqual((conditions, turns), ([("match", "a*"), ("length", 1, 2)], ["bca"]))
        conditions[0] = ("match", "b*")
        conditions.append(("length", 0, 7))
        turns.append("bac")
        self.assertEqual([values.first_text(value) for value in range(len(values))], firsts)
        self.assertEqual([values.holds(value) for value in range(len(values))], truths)
        self.assertEqual(repr(values), "Values(%d values, 3 turns)" % len(firsts))
        again = Values(turns=("bca",), conditions=(("match", "a*"), ("length", 1, 2)), letters="abc", limit=500)
        self.assertEqual([again.first_text(value) for value in range(len(again))], firsts)
        self.assertEqual([again.holds(value) for value in range(len(again))], truths)


class Filled(unittest.TestCase):
    def test_values_of_filled_texts(self):
        for random, letters, conditions, turns in some_cases(64, 200):
            values = values_or_none(letters, conditions, turns)
            if values is None:
                continue
            made = sorted(own_turns(letters, turns))
            for _ in range(4):
                fill = some_fill(random, letters, 3, made)
                for text in texts_up_to(letters, AROUND[len(letters)] + 1):
                    wanted = values.value_of(own_fill(letters, fill, text))
                    self.assertEqual(values.filled(fill, values.value_of(text)), wanted)
                    self.assertEqual(values.filled(value=values.value_of(text), fill=fill), wanted)

    def test_templates_put_into_one_another(self):
        for random, letters, conditions, turns in some_cases(65, 100):
            values = values_or_none(letters, conditions, turns)
            if values is None:
                continue
            made = sorted(own_turns(letters, turns))
            one, other = some_fill(random, letters, 3, made), some_fill(random, letters, 3, made)
            whole = Template(letters, one).put(Template(letters, other)).text()
            for value in range(min(40, len(values))):
                self.assertEqual(values.filled(one, values.filled(other, value)), values.filled(whole, value))


class Meaning(unittest.TestCase):
    def test_the_same_value_tells_the_same(self):
        for random, letters, conditions, turns in some_cases(66, 60, conditions=2):
            values = values_or_none(letters, conditions, turns)
            if values is None:
                continue
            made = own_turns(letters, turns)
            around = texts_up_to(letters, 1) + [some_text(random, letters, 3) for _ in range(2)]
            marks = {}
            for text in texts_up_to(letters, DEEP[len(letters)] - 1):
                mark = own_mark(letters, conditions, made, text, around)
                self.assertEqual(marks.setdefault(values.value_of(text), mark), mark)

    def test_values_are_all_apart(self):
        whole = 0
        for random, letters, conditions, turns in some_cases(67, 60, conditions=2):
            values = values_or_none(letters, conditions, turns, 30)
            if values is None:
                continue
            marks = [values.holds(value) for value in range(len(values))]
            marks = [tuple(mark) for mark in marks]
            made = sorted(own_turns(letters, turns))
            # Values are put apart by a letter on the left or on the right or a turn that leads to values that are.
            moves = ["{}" + letter for letter in letters] + [letter + "{}" for letter in letters]
            moves += ["{" + turn + "}" for turn in made]
            while len(set(marks)) < len(values):
                further = [(marks[value], *(marks[values.filled(move, value)] for move in moves))
                           for value in range(len(values))]
                names = {mark: at for at, mark in enumerate(dict.fromkeys(further))}
                self.assertGreater(len(names), len(set(marks)), (letters, conditions, turns))
                marks = [names[mark] for mark in further]
            whole += 1
        self.assertGreater(whole, 30)

    def test_by_marks_alone(self):
        random = Random(68)
        for letters, _ in product(["ab", "ba", "abc"], range(8)):
            condition = small_condition(random, letters)
            turns = [random.choice(all_turns(letters))]
            around = texts_up_to(letters, AROUND[len(letters)])
            values = values_or_none(letters, [condition], turns, 40)
            if values is None:
                continue
            made = own_turns(letters, turns)
            marks = {own_mark(letters, [condition], made, text, around) for text in texts_up_to(letters, 4)}
            found = {values.value_of(text) for text in texts_up_to(letters, 4)}
            self.assertEqual(len(marks), len(found), (letters, condition, turns))


class Refused(unittest.TestCase):
    def test_limits(self):
        for random, letters, conditions, turns in some_cases(69, 150):
            values = values_or_none(letters, conditions, turns)
            if values is None:
                continue
            many = len(values)
            for limit in {0, 1, 2, many // 2, many - 1, many, many + 1, 2000}:
                if limit >= many:
                    self.assertEqual(len(Values(letters, conditions, turns, limit=limit)), many)
                else:
                    with self.assertRaises(TooMany) as caught:
                        Values(letters, conditions, turns, limit=limit)
                    self.assertEqual(caught.exception.limit, limit)

    def test_the_limit_that_is_left_out(self):
        self.assertEqual(MOST_VALUES, 2000)
        self.assertEqual(len(Values("ab", [("length", 0, 40), ("length", 0, 50), ("length", 0, 2)])), 200)
        self.assertEqual(len(Values("ab", [("length", 0, 50), ("length", 0, 39)])), 1950)
        self.assertEqual(len(Values("ab", [("length", 0, 16), ("length", 0, 25), ("length", 0, 5)])), 400)
        with self.assertRaises(TooMany) as caught:
            Values("ab", [("length", 0, 41), ("length", 0, 49)])
        self.assertEqual(caught.exception.limit, 2000)
        self.assertEqual(len(Values("ab", [("length", 0, 41), ("length", 0, 49)], limit=2009)), 2009)

    def test_in_order(self):
        named = [("match", "a"), parse_condition("ab", "(length(0,2) or (named y and named x))"), ("named", "z")]
        for letters in BAD_LETTERS:
            with self.subTest(letters), self.assertRaises(InvalidLetters):
                Values(letters, named, [], limit=0)
        with self.assertRaises(UnknownName) as caught:
            Values("ab", named, ["ba"], limit=0)
        self.assertEqual(caught.exception.name, "y")
        with self.assertRaises(TooMany):
            Values("ab", [], limit=0)
        values = Values("ab", [("length", 0, 2)])
        for text, position in (("c", 0), ("abc", 2), ("aA", 1)):
            with self.assertRaises(UnknownLetter) as caught:
                values.value_of(text)
            self.assertEqual(caught.exception.position, position)


if __name__ == "__main__":
    unittest.main()
