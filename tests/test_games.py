"""[16]: games."""

import unittest
from random import Random

from ownfill.errors import InvalidGame, ParseError, TooMany, UnknownLetter, UnknownName
from ownfill.games import Game
from ownfill.values import Values
from tests.models import check_least
from tests.program_models import own_fill, own_holds, some_fill, some_small
from tests.samples import ALL_LETTERS, some_text, texts_up_to
from tests.test_tables import short_texts

ALWAYS = ("match", ".*")


def some_rules(random, letters, most=3):
    return [(some_small(random, letters), random.randrange(2),
             [some_fill(random, letters, 3) for _ in range(random.randint(1, 3))])
            for _ in range(random.randint(0, most))]


def some_games(seed, many, limit=300):
    random = Random(seed)
    for at in range(many):
        letters = ALL_LETTERS[at % len(ALL_LETTERS)]
        rules, goal = some_rules(random, letters), some_small(random, letters)
        if random.random() < 0.5:
            rules.append((ALWAYS, random.randrange(2), [some_fill(random, letters, 2) for _ in range(2)]))
            rules = rules[-3:]
        try:
            yield random, letters, rules, goal, Game(letters, rules, goal, limit=limit)
        except TooMany:
            continue


def own_rule(letters, rules, goal, text):
    """The first rule that holds, or None if none does or the goal does."""
    if own_holds(letters, goal, text):
        return None
    for rule in rules:
        if own_holds(letters, rule[0], text):
            return rule
    return None


class Moves(unittest.TestCase):
    def test_by_the_next_texts(self):
        seen = {}
        for _, letters, rules, goal, game in some_games(121, 500):
            winning = game.winning()
            check_least(self, winning)
            for text in short_texts(letters):
                self.assertEqual(winning.answer(text), game.moves(text) is not None)
                key = self.check(letters, rules, goal, game, text)
                seen[key] = seen.get(key, 0) + 1
        self.assertEqual(len(seen), 10)

    def check(self, letters, rules, goal, game, text):
        """Moves and choice by the moves of the next texts; returns the hand and the number of moves, at most 3."""
        rule = own_rule(letters, rules, goal, text)
        found, chosen = game.moves(text), game.choice(text)
        if rule is None:
            self.assertEqual(found, 0 if own_holds(letters, goal, text) else None)
            self.assertIsNone(chosen)
            return (None, found)
        nexts = [game.moves(own_fill(letters, fill, text)) for fill in rule[2]]
        known = [moves for moves in nexts if moves is not None]
        if rule[1] == 0:
            wanted = min(known) + 1 if known else None
            best = nexts.index(min(known)) if known else 0
        else:
            wanted = max(known) + 1 if len(known) == len(nexts) else None
            best = nexts.index(None) if wanted is None else nexts.index(max(known))
        self.assertEqual((found, chosen), (wanted, best), (letters, rules, goal, text))
        self.assertEqual((game.moves(text=text), game.choice(text=text)), (wanted, best))
        return (rule[1], wanted if wanted is None else min(wanted, 3))

    def test_properties(self):
        for _, letters, rules, goal, game in some_games(122, 60):
            self.assertEqual((len(game), game.letters), (len(rules), letters))
            self.assertEqual(repr(game), "Game(%d rules)" % len(rules))
        self.assertEqual(Game.HANDS, 2)
        self.assertEqual(repr(Game("ab", [(ALWAYS, 0, ["a"])], ALWAYS)), "Game(1 rules)")

    def test_played_by_choices(self):
        played = [0, 0]
        for random, letters, rules, goal, game in some_games(123, 900):
            for text in [some_text(random, letters, 5) for _ in range(4)]:
                moves = game.moves(text)
                if moves is not None:
                    self.play(random, letters, rules, goal, game, text, 0, moves)
                    played[0] += moves > 1
                else:
                    played[1] += self.play(random, letters, rules, goal, game, text, 1, 25) > 1
        self.assertGreater(min(played), 40)

    def play(self, random, letters, rules, goal, game, text, hand, most):
        """The hand plays by choice, the other one by chance; returns how many moves there were."""
        for made in range(most + 1):
            if own_holds(letters, goal, text):
                self.assertEqual(hand, 0)
                return made
            rule = own_rule(letters, rules, goal, text)
            if rule is None or len(text) > 400:
                self.assertEqual(hand, 1)
                return made
            at = game.choice(text) if rule[1] == hand else random.randrange(len(rule[2]))
            text = own_fill(letters, rule[2][at], text)
        self.assertEqual(hand, 1)
        return most

    def test_long_games(self):
        game = Game("ab", [(ALWAYS, 0, ["{}", "{}b"])], ("length", 0, 49))
        self.assertEqual([game.moves("a" * size) for size in (0, 1, 2, 48, 49, 50)], [0, 48, 47, 1, 0, 48])
        self.assertEqual([game.choice("ab"), game.choice("")], [1, None])
        rules = [(("length", 1, 2), 1, ["{}a", "{}aaa"]), (ALWAYS, 0, ["{}b", "b{}aaa"])]
        goal = ("and", ("not", ("length", 0, 2)), ("length", 0, 49))
        game = Game("ab", rules, goal)
        for text in texts_up_to("ab", 2) + ["a" * size for size in range(3, 130)]:
            self.check("ab", rules, goal, game, text)
        rules = [(("length", 1, 2), 1, ["{}a", "{ba}a"]), (ALWAYS, 0, ["{}b", "{}"])]
        game = Game("ab", rules, ("and", ("length", 1, 2), ("length", 0, 49)))
        self.assertEqual([game.moves("a"), game.moves("ab" * 25), game.moves("a" * 49)], [48, 97, 0])

    def test_known_games(self):
        rules = [(("match", "a.*"), 0, ["b{}", "{}b"]), (("match", "b.*"), 1, ["{ba}", "{}a"])]
        game = Game("ab", rules, ("match", ".*bb"))
        self.assertEqual([game.moves("ab"), game.choice("ab")], [1, 1])
        self.assertEqual([game.moves("abb"), game.choice("abb")], [0, None])
        self.assertEqual([game.moves(""), game.choice("")], [None, None])
        self.assertEqual([game.moves("baa"), game.choice("ba")], [None, 1])
        self.assertEqual([game.moves("a"), game.choice("a")], [2, 1])


class Refused(unittest.TestCase):
    def test_spoilt_rules(self):
        random = Random(124)
        for at in range(300):
            letters = ALL_LETTERS[at % len(ALL_LETTERS)]
            rules = some_rules(random, letters) + some_rules(random, letters)
            rules, goal = (rules or [(ALWAYS, 0, ["-"])])[:3], some_small(random, letters)
            index = random.randrange(len(rules))
            condition, hand, fills = rules[index]
            named, template = list(rules), list(rules)
            named[index] = (("and", condition, ("named", "other")), hand, fills)
            template[index] = (condition, hand, fills + ["{" + letters, "?"])
            for spoilt in ((condition, random.choice([2, -1, 7]), fills), (condition, hand, [])):
                broken = named[:index] + [spoilt] + template[index + 1:]
                if index > 0:
                    broken[0] = (("named", "first"), hand, ["?"])
                with self.assertRaises(InvalidGame) as caught:
                    Game(letters, broken, ("named", "goal"), limit=0)
                self.assertEqual(caught.exception.index, index)
            for asked, wanted in ((named, "other"), (template, "goal")):
                with self.assertRaises(UnknownName) as caught:
                    Game(letters, asked, ("named", "goal"), limit=0)
                self.assertEqual(caught.exception.name, wanted)
            with self.assertRaises(ParseError) as caught:
                Game(letters, template, goal, limit=0)
            self.assertEqual(caught.exception.position, 0)
            with self.assertRaises(TooMany):
                Game(letters, rules, goal, limit=0)

    def test_positions(self):
        for fill, position in (("", 0), ("a{", 1), ("ab{}c", 4), ("-a", 0), ("a{aa}", 1)):
            with self.assertRaises(ParseError) as caught:
                Game("ab", [(ALWAYS, 0, ["a", "{ab}"]), (ALWAYS, 1, ["b", fill, "??"])], ALWAYS)
            self.assertEqual(caught.exception.position, position)

    def test_limits(self):
        for _, letters, rules, goal, game in some_games(125, 120):
            turns = [piece.partition("}")[0] or letters for rule in rules for fill in rule[2]
                     for piece in fill.split("{")[1:]]
            many = len(Values(letters, [rule[0] for rule in rules] + [goal], turns))
            for limit in {0, many // 2, many - 1, many, many + 1}:
                if limit >= many:
                    self.assertEqual(Game(letters, rules, goal, limit=limit).winning(), game.winning())
                else:
                    with self.assertRaises(TooMany) as caught:
                        Game(letters, rules, goal, limit=limit)
                    self.assertEqual(caught.exception.limit, limit)
        with self.assertRaises(TooMany) as caught:
            Game("ab", [(("length", 0, 41), 0, ["a"])], ("length", 0, 49))
        self.assertEqual(caught.exception.limit, 2000)
        Game("ab", [(("length", 0, 41), 0, ["a"])], ("length", 0, 49), limit=2009)

    def test_unknown_letters(self):
        game = Game("ab", [(ALWAYS, 0, ["a"])], ("match", "b"))
        for call in (game.moves, game.choice):
            for text, position in (("c", 0), ("abc", 2)):
                with self.assertRaises(UnknownLetter) as caught:
                    call(text)
                self.assertEqual(caught.exception.position, position)

    def test_passed_lists(self):
        fills = ["{}a", "{ba}b"]
        rules = [(("length", 1, 3), 1, fills), (ALWAYS, 0, ["{}b", "a"])]
        game = Game("ab", rules, ("length", 0, 3))
        texts = texts_up_to("ab", 4)
        told = [(game.moves(text), game.choice(text)) for text in texts]
        self.assertEqual((fills, len(rules)), (["{}a", "{ba}b"], 2))
        fills[:] = ["a", "b", "-"]
        rules.reverse()
        rules.append((ALWAYS, 1, ["a"]))
        self.assertEqual([(game.moves(text), game.choice(text)) for text in texts], told)
        self.assertEqual((len(game), repr(game)), (2, "Game(2 rules)"))
        again = Game(goal=("length", 0, 3), letters="ab", limit=700,
                     rules=((("length", 1, 3), 1, ("{}a", "{ba}b")), (ALWAYS, 0, ("{ab}b", "a"))))
        self.assertEqual([(again.moves(text), again.choice(text)) for text in texts], told)


if __name__ == "__main__":
    unittest.main()
