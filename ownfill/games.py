"""Games in which two hands fill templates in turn: hand 0 wants to reach the goal, hand 1 to prevent it."""

from ownfill.chains import fills_turns
from ownfill.conditions import check_no_names
from ownfill.errors import InvalidGame
from ownfill.values import MOST_VALUES, Values


def check_rules(rules):
    """Raises InvalidGame of the first rule with another hand or without fills."""
    for index, (condition, hand, fills) in enumerate(rules):
        if not 0 <= hand < Game.HANDS or len(fills) == 0:
            raise InvalidGame(index)


def first_rule(worths, value):
    """The number of the first rule that holds for a value; None if none does or if the goal, the last one, holds."""
    truths = worths.holds(value)
    if truths[-1]:
        return None
    for number, truth in enumerate(truths[:-1]):
        if truth:
            return number
    return None


def leads_to_goal(hand, levels):
    """Whether hand 0 can win where a hand moves, by the levels behind its choices, None where hand 0 cannot win yet."""
    known = [level is not None for level in levels]
    return any(known) if hand == 0 else all(known)


class Game:
    """A game, solved for the values of its conditions and turns. It never changes."""

    HANDS = 2

    def __init__(self, letters, rules, goal, *, limit=MOST_VALUES):
        check_rules(rules)
        conditions = [rule[0] for rule in rules]
        conditions.append(goal)
        for asked in conditions:
            check_no_names(asked)
        turns = fills_turns(letters, [fill for rule in rules for fill in rule[2]])
        self.alphabet = letters
        self.rules = tuple([(condition, hand, tuple(fills)) for condition, hand, fills in rules])
        self.worths = Values(letters, conditions, turns, limit=limit)
        numbers = [first_rule(self.worths, value) for value in range(len(self.worths))]
        # For each value the hand that moves, or None, and the values behind its choices.
        self.hands = [None if number is None else rules[number][1] for number in numbers]
        self.choices = [[] if number is None else [self.worths.filled(fill, value) for fill in rules[number][2]]
                        for value, number in enumerate(numbers)]
        self.levels = self.solved()

    def solved(self):
        """For each value the least number of moves in which hand 0 can bring about the goal, or None."""
        levels = [0 if self.worths.holds(value)[-1] else None for value in range(len(self.worths))]
        left = [value for value, hand in enumerate(self.hands) if hand is not None]
        level = 0
        while True:
            level += 1
            won = [value for value in left
                   if leads_to_goal(self.hands[value], [levels[target] for target in self.choices[value]])]
            if not won:
                return levels
            for value in won:
                levels[value] = level
            left = [value for value in left if levels[value] is None]

    @property
    def letters(self):
        """The letters of the texts."""
        return self.alphabet

    def winning(self):
        """The machine that answers True for the texts from which hand 0 can bring about the goal."""
        return self.worths.machine_with([level is not None for level in self.levels])

    def moves(self, text):
        """The least number of moves in which hand 0 can bring about the goal, or None."""
        return self.levels[self.worths.value_of(text)]

    def choice(self, text):
        """The index of the template for the hand that moves, or None if no hand does."""
        value = self.worths.value_of(text)
        hand = self.hands[value]
        if hand is None:
            return None
        levels = [self.levels[target] for target in self.choices[value]]
        if self.levels[value] is None:
            # Hand 0 has lost whatever it does; hand 1 has a choice behind which hand 0 cannot win.
            return 0 if hand == 0 else levels.index(None)
        known = [level for level in levels if level is not None]
        return levels.index(min(known) if hand == 0 else max(known))

    def __len__(self):
        return len(self.rules)

    def __repr__(self):
        return f"Game({len(self.rules)} rules)"
