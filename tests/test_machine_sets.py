"""[8]: machines that answer True and False, put together: &, |, ~, joined, repeated, mirrored."""

import unittest
from random import Random

from ownfill.errors import LettersDiffer
from ownfill.machines import Machine, joined, mirrored, repeated
from tests.models import check_least, some_rooms, walked
from tests.samples import ALL_LETTERS, texts_up_to

SIZES = {2: 6, 3: 4, 4: 3}


def some_pairs(seed, many):
    """Many letters, each with all short texts and two times rooms that answer True and False."""
    random = Random(seed)
    for at in range(many):
        letters = ALL_LETTERS[at % len(ALL_LETTERS)]
        yield (letters, texts_up_to(letters, SIZES[len(letters)]), some_rooms(random, letters, 5),
               some_rooms(random, letters, 5))


def cuts(text):
    return [(text[:place], text[place:]) for place in range(len(text) + 1)]


class Together(unittest.TestCase):
    def check(self, machine, letters, texts, wanted):
        self.assertIsInstance(machine, Machine)
        self.assertEqual(machine.letters, letters)
        for text in texts:
            self.assertIs(machine.answer(text), wanted(text))
        check_least(self, machine)

    def test_operators_on_all_short_texts(self):
        for letters, texts, one, other in some_pairs(111, 300):
            first, second = Machine(letters, *one), Machine(letters, *other)
            before = [first.rows(), first.answers(), second.rows(), second.answers()]

            def holds(text):
                return walked(letters, *one, text), walked(letters, *other, text)

            self.check(first & second, letters, texts, lambda text: all(holds(text)))
            self.check(first | second, letters, texts, lambda text: any(holds(text)))
            self.check(~first, letters, texts, lambda text: not holds(text)[0])
            self.assertEqual([first.rows(), first.answers(), second.rows(), second.answers()], before)

    def test_laws_of_truths(self):
        for letters, _, one, other in some_pairs(112, 150):
            first, second = Machine(letters, *one), Machine(letters, *other)
            self.assertEqual(~~first, first)
            self.assertEqual(~(first & second), ~first | ~second)
            self.assertEqual(first & second, second & first)
            self.assertEqual(first | second, second | first)
            self.assertEqual([first & first, first | first], [first, first])
            self.assertEqual(first & ~first, Machine.never(letters))
            self.assertEqual(first | ~first, Machine.always(letters))

    def test_joined_by_cutting_texts_in_two(self):
        for letters, texts, one, other in some_pairs(113, 250):
            first, second = Machine(letters, *one), Machine(letters, *other)
            made = joined(first, second)
            self.check(made, letters, texts, lambda text: any(
                walked(letters, *one, left) and walked(letters, *other, right) for left, right in cuts(text)))
            self.assertEqual(joined(other=second, one=first), made)
            self.assertEqual([first, second], [Machine(letters, *one), Machine(letters, *other)])

    def test_repeated_by_cutting_texts_in_all_ways(self):
        for letters, texts, one, _ in some_pairs(114, 250):
            whole = {"": True}
            for text in texts[1:]:
                whole[text] = any(whole[left] and walked(letters, *one, right) for left, right in cuts(text)[:-1])
            machine = Machine(letters, *one)
            made = repeated(machine)
            self.check(made, letters, texts, whole.get)
            self.assertEqual(repeated(machine=machine), made)
            self.assertEqual(repeated(made), made)
            self.assertEqual(machine, Machine(letters, *one))

    def test_mirrored_by_reading_backwards_and_twice(self):
        for letters, texts, one, other in some_pairs(115, 250):
            machine = Machine(letters, *one)
            made = mirrored(machine)
            self.check(made, letters, texts, lambda text: walked(letters, *one, text[::-1]))
            self.assertEqual(mirrored(made), machine)
            self.assertEqual(mirrored(machine=machine), made)
            self.assertEqual(machine, Machine(letters, *one))
            second = Machine(letters, *other)
            self.assertEqual(mirrored(joined(machine, second)), joined(mirrored(second), made))
            self.assertEqual(mirrored(repeated(machine)), repeated(made))

    def test_always_never_and_the_empty_text(self):
        for letters in ALL_LETTERS:
            always, never, empty = Machine.always(letters), Machine.never(letters), Machine.only(letters, "")
            one = Machine.only(letters, letters)
            self.assertEqual([joined(empty, one), joined(one, empty)], [one, one])
            self.assertEqual([joined(never, one), joined(one, never)], [never, never])
            self.assertEqual([repeated(never), repeated(empty), repeated(always)], [empty, empty, always])
            self.assertEqual(joined(one, one), Machine.only(letters, letters + letters))
            self.assertEqual(mirrored(one), Machine.only(letters, letters[::-1]))
            self.assertEqual([mirrored(always), mirrored(never)], [always, never])
            self.assertEqual(joined(always, always), always)

    def test_a_room_that_is_entered_again(self):
        even = Machine("ab", [[1, 1], [0, 0]], [False, True])
        self.assertEqual(repeated(even), Machine.always("ab"))
        ends = Machine("ab", [[0, 1], [0, 0]], [False, True])
        self.assertEqual([repeated(ends).answer(text) for text in ("", "a", "b", "ba", "bab")],
                         [True, False, True, False, True])

    def test_other_letters(self):
        for letters, others in (("ab", "ba"), ("ab", "abc"), ("abc", "ab"), ("abc", "abd")):
            one, other = Machine.always(letters), Machine.never(others)
            for work in (lambda: one & other, lambda: one | other, lambda: joined(one, other)):
                with self.assertRaises(LettersDiffer):
                    work()
            self.assertEqual([one, other], [Machine.always(letters), Machine.never(others)])

    def test_adding_again_leaves_the_first_as_it_was(self):
        first = total = Machine.only("ab", "a")
        total |= Machine.only("ab", "b")
        self.assertEqual([first.answer("b"), total.answer("b")], [False, True])
        total &= Machine.only("ab", "b")
        self.assertEqual([total, first], [Machine.only("ab", "b"), Machine.only("ab", "a")])


if __name__ == "__main__":
    unittest.main()
