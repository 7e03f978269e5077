"""ownfill.chains: templates that are filled one after the other."""

import unittest
from random import Random

from ownfill.chains import MOST_PARTS, fills_letter, fills_size, fills_template
from ownfill.errors import TooLong, UnknownLetter
from ownfill.templates import Template
from tests.samples import (ALL_LETTERS, all_turns, model_fill, model_put, model_text, model_turned, some_items,
                           some_text, texts_up_to)


def some_chains(seed, many, most=5):
    """Letters, the items of some templates and their texts."""
    random = Random(seed)
    for at in range(many):
        letters = ALL_LETTERS[at % len(ALL_LETTERS)]
        chain = [some_items(random, letters, 4) for _ in range(random.randint(0, most))]
        yield random, letters, chain, [model_text(letters, items) for items in chain]


def own_size(chain):
    """The numbers of blanks and letters by products over all ways from the last template to the first one."""
    blanks, size = 1, 0
    for items in reversed(chain):
        size += blanks * len([kind for kind, _ in items if kind == "letter"])
        blanks *= len([kind for kind, _ in items if kind == "blank"])
    return blanks, size


def own_items(letters, chain):
    """The items of the one template, put together from the last template to the first one."""
    whole = [("blank", letters)]
    for items in reversed(chain):
        whole = model_put(letters, whole, items)
    return whole


def own_letter(letters, chain, text, place):
    """The letter at a place, from the last fill to the first one."""
    if not chain:
        return text[place]
    size = len(text)
    for items in chain[:-1]:
        size = sum(1 if kind == "letter" else size for kind, _ in items)
    for kind, what in chain[-1]:
        if kind == "letter":
            if place == 0:
                return what
            place -= 1
        elif place < size:
            return model_turned(letters, what, own_letter(letters, chain[:-1], text, place))
        else:
            place -= size
    raise AssertionError("no such place")


def own_length(chain, size):
    for items in chain:
        size = sum(1 if kind == "letter" else size for kind, _ in items)
    return size


class Sizes(unittest.TestCase):
    def test_products(self):
        for _, letters, chain, fills in some_chains(21, 600):
            self.assertEqual(fills_size(letters, fills), own_size(chain))
            self.assertEqual(fills_size(fills=tuple(fills), letters=letters), own_size(chain))
            self.assertIs(type(fills_size(letters, fills)), tuple)

    def test_the_empty_list(self):
        self.assertEqual(fills_size("ab", []), (1, 0))
        self.assertEqual(fills_template("ab", []), Template("ab", "{}"))
        self.assertEqual(fills_letter("ab", [], "ab", 1), "b")
        self.assertEqual(fills_template("ab", [], limit=1).text(), "{}")
        with self.assertRaises(TooLong):
            fills_template("ab", [], limit=0)

    def test_known_sizes(self):
        self.assertEqual(fills_size("ab", ["{}{}a"] * 3), (8, 7))
        self.assertEqual(fills_size("ab", ["{}{}a"] * 3 + ["-"]), (0, 0))
        self.assertEqual(fills_size("ab", ["-"] + ["{}{}"] * 50), (0, 0))
        self.assertEqual(fills_size("ab", ["a"] + ["{ba}{}"] * 90), (0, 2 ** 90))
        self.assertEqual(fills_size("ab", ["{}{}"] * 100), (2 ** 100, 0))


class Whole(unittest.TestCase):
    def test_items(self):
        for _, letters, chain, fills in some_chains(22, 600):
            if sum(own_size(chain)) > 2000:
                continue
            whole = fills_template(letters, fills, limit=2000)
            self.assertIs(type(whole), Template)
            self.assertEqual(whole.text(), model_text(letters, own_items(letters, chain)))
            self.assertEqual(fills_template(limit=2000, fills=tuple(fills), letters=letters), whole)
            self.assertEqual((whole.blanks, whole.size), own_size(chain))

    def test_filled_one_after_the_other(self):
        for random, letters, chain, fills in some_chains(23, 300):
            if sum(own_size(chain)) > MOST_PARTS:
                continue
            whole = fills_template(letters, fills)
            for text in ["", *(some_text(random, letters, 5) for _ in range(3))]:
                filled = text
                for items in chain:
                    filled = model_fill(letters, items, filled)
                self.assertEqual(whole.fill(text), filled)

    def test_a_list_cut_in_two(self):
        for random, letters, chain, fills in some_chains(24, 300):
            if sum(own_size(chain)) > 2000:
                continue
            place = random.randint(0, len(fills))
            if max(sum(own_size(chain[:place])), sum(own_size(chain[place:]))) > 2000:
                continue
            one = fills_template(letters, fills[:place], limit=2000)
            other = fills_template(letters, fills[place:], limit=2000)
            self.assertEqual(other.put(one), fills_template(letters, fills, limit=2000))

    def test_limits(self):
        for _, letters, chain, fills in some_chains(25, 400):
            size = sum(own_size(chain))
            if size > 1000:
                continue
            for limit in (size, size + 1, size + 100):
                self.assertEqual(sum([fills_template(letters, fills, limit=limit).blanks,
                                      fills_template(letters, fills, limit=limit).size]), size)
            if size > 0:
                with self.assertRaises(TooLong) as caught:
                    fills_template(letters, fills, limit=size - 1)
                self.assertEqual(caught.exception.limit, size - 1)

    def test_the_limit_that_is_left_out(self):
        self.assertEqual(MOST_PARTS, 400)
        self.assertEqual(fills_template("ab", ["{}a"] * 399).size, 399)
        with self.assertRaises(TooLong) as caught:
            fills_template("ab", ["{}a"] * 400)
        self.assertEqual(caught.exception.limit, 400)

    def test_long_ones_before_short_ones(self):
        self.assertEqual(fills_template("ab", ["{}{}a"] * 200 + ["b", "{ba}b"]).text(), "ab")
        self.assertEqual(fills_template("ab", ["{}{}a"] * 200 + ["-"] + ["{}{}"] * 200).text(), "-")
        self.assertEqual(fills_template("ab", ["-"] + ["{}{}{ba}"] * 200, limit=0).text(), "-")


class Letters(unittest.TestCase):
    def test_all_places_of_short_texts(self):
        for random, letters, chain, fills in some_chains(26, 400):
            text = some_text(random, letters, 4)
            if own_length(chain, len(text)) > 500:
                continue
            filled = text
            for items in chain:
                filled = model_fill(letters, items, filled)
            found = "".join(fills_letter(letters, fills, text, place) for place in range(len(filled)))
            self.assertEqual(found, filled)

    def test_places_with_many_digits(self):
        digits = 0
        for random, letters, chain, fills in some_chains(27, 400):
            text = some_text(random, letters, 6) + random.choice(letters)
            if random.random() < 0.5:
                chain = [items + [("blank", random.choice(all_turns(letters)))] for items in chain]
                fills = [model_text(letters, items) for items in chain]
            times = random.randint(1, 20)
            chain, fills = chain * times, fills * times
            while own_length(chain, len(text)) >= 10 ** 30:
                chain, fills = chain[1:], fills[1:]
            length = own_length(chain, len(text))
            if length == 0:
                continue
            digits = max(digits, len(str(length)))
            for place in {0, length - 1, length // 2, *(random.randrange(length) for _ in range(5))}:
                wanted = own_letter(letters, chain, text, place)
                self.assertEqual(fills_letter(letters, fills, text, place), wanted)
            self.assertEqual(fills_letter(place=0, text=text, fills=tuple(fills), letters=letters),
                             own_letter(letters, chain, text, 0))
        self.assertGreater(digits, 25)

    def test_unknown_letters(self):
        for text, position in (("x", 0), ("abx", 2), ("aBx", 1), ("a-", 1)):
            for fills in ([], ["{}"], ["a"], ["{}a", "b{ba}"]):
                with self.assertRaises(UnknownLetter) as caught:
                    fills_letter("ab", fills, text, 0)
                self.assertEqual(caught.exception.position, position)

    def test_lists_stay(self):
        fills = ["{}a", "{ba}{ab}b"]
        fills_size("ab", fills)
        fills_template("ab", fills)
        fills_letter("ab", fills, "ab", 2)
        self.assertEqual(fills, ["{}a", "{ba}{ab}b"])
        self.assertEqual([fills_letter("ab", fills, text, 0) for text in texts_up_to("ab", 1)], ["b", "b", "a"])


if __name__ == "__main__":
    unittest.main()
