"""Plain models of machines, comparisons, patterns and conditions, and samples of them.

A pattern is a tree here: a string with one letter or a dot, ("row", TREES), ("choice", TREES) or ("star", TREE).
"""

from tests.samples import all_turns, model_fill, model_text, model_turned, some_items, template_of

SHORT = {2: 7, 3: 5, 4: 4}


def walked(letters, rows, answers, text):
    """The answer of the room to which a text leads."""
    room = 0
    for letter in text:
        room = rows[room][letters.index(letter)]
    return answers[room]


def some_rooms(random, letters, most=8, words=(True, False)):
    """Rows and answers of some rooms; a few of them are doubled, a few are not reached."""
    many = random.randint(1, most)
    rows = [[random.randrange(many) for _ in letters] for _ in range(many)]
    answers = [random.choice(words) for _ in range(many)]
    for _ in range(random.randint(0, 2)):
        room = random.randrange(len(rows))
        rows.append(list(rows[room]))
        answers.append(answers[room])
        double = len(rows) - 1
        rows = [[double if target == room and random.random() < 0.5 else target for target in row] for row in rows]
    for _ in range(random.randint(0, 2)):
        rows.append([random.randrange(len(rows) + 1) for _ in letters])
        answers.append(random.choice(words))
    return rows, answers


def room_texts(letters, rows):
    """The rooms that are reached, each with the least text that leads to it, in the order of these texts."""
    found = {0: ""}
    texts = [""]
    while texts:
        longer = []
        for text in texts:
            for letter, target in zip(letters, rows[walked(letters, rows, list(range(len(rows))), text)]):
                if target not in found:
                    found[target] = text + letter
                    longer.append(text + letter)
        texts = longer
    return found


def class_count(rows, answers):
    """The number of classes of rooms that can be told apart, by looking one letter further again and again."""
    looks = [(type(answer).__name__, answer) for answer in answers]
    while True:
        further = [(looks[room], tuple(looks[target] for target in row)) for room, row in enumerate(rows)]
        names = {look: at for at, look in enumerate(dict.fromkeys(further))}
        if len(names) == len(set(looks)):
            return len(names)
        looks = [names[look] for look in further]


def check_least(test, machine):
    """All rooms are reached, they stand in the order of their least texts, and no two of them are alike."""
    rows, answers = machine.rows(), machine.answers()
    test.assertEqual(len(rows), len(answers))
    test.assertEqual(list(room_texts(machine.letters, rows)), list(range(len(rows))))
    test.assertEqual(class_count(rows, answers), len(rows))


def model_word(letters, first, second):
    """[6] for two texts."""
    if first == second:
        return "equal"
    if second.startswith(first):
        return "shorter"
    if first.startswith(second):
        return "longer"
    places = [[letters.index(letter) for letter in text] for text in (first, second)]
    return "less" if places[0] < places[1] else "greater"


def endless_word(letters, start, turn, size):
    """The first letters of the word start, turned start, twice turned start and so on."""
    word = ""
    while len(word) < size:
        place = len(word)
        word += start[place] if place < len(start) else model_turned(letters, turn, word[place - len(start)])
    return word


def some_template(random, letters, most=5):
    return template_of(letters, some_items(random, letters, most))


def some_pattern(random, letters, deep):
    """A tree of a pattern."""
    kind = random.choice(["letter", "row", "choice", "star"]) if deep > 0 else "letter"
    if kind == "letter":
        return random.choice(letters + ".")
    if kind == "star":
        return ("star", some_pattern(random, letters, deep - 1))
    return (kind, [some_pattern(random, letters, deep - 1) for _ in range(random.randint(0, 3))])


def pattern_text(tree):
    """The text of a pattern; parentheses stand only where they are needed."""
    if isinstance(tree, str):
        return tree
    kind, parts = tree
    if kind == "star":
        return (parts if isinstance(parts, str) else "(" + pattern_text(parts) + ")") + "*"
    if kind == "row":
        return "".join("(" + pattern_text(part) + ")" if part[0] == "choice" else pattern_text(part) for part in parts)
    return "|".join(pattern_text(part) for part in parts)


def pattern_ends(tree, text, starts):
    """The places of a text at which a part can end that begins at one of some places and belongs to the pattern."""
    if isinstance(tree, str):
        return {place + 1 for place in starts if place < len(text) and tree in (".", text[place])}
    kind, parts = tree
    if kind == "star":
        reached = set(starts)
        while True:
            more = reached | pattern_ends(parts, text, reached)
            if more == reached:
                return reached
            reached = more
    if kind == "row":
        for part in parts:
            starts = pattern_ends(part, text, starts)
        return set(starts)
    ends = set() if parts else set(starts)
    for part in parts:
        ends |= pattern_ends(part, text, starts)
    return ends


def pattern_takes(tree, text):
    return len(text) in pattern_ends(tree, text, {0})


def model_simple(random, letters, names):
    """A condition without conditions in it, as a pair of the tuple and the function that tells whether it holds."""
    kind = random.choice(["match", "length", "same", "begins", "ends", "less"] + ["named"] * (names is not None))
    if kind == "named":
        return ("named", random.choice(names)), None
    if kind == "match":
        tree = some_pattern(random, letters, 2)
        return ("match", pattern_text(tree)), lambda text: pattern_takes(tree, text)
    if kind == "length":
        modulus = random.choice([1, 2, 3, 5, 10, 59, 60])
        rest = random.randrange(modulus)
        return ("length", rest, modulus), lambda text: len(text) % modulus == rest
    one, other = some_items(random, letters, 4), some_items(random, letters, 4)
    if random.random() < 0.4:
        other = one[:random.randint(0, 4)] + other[:2]

    def holds(text):
        first, second = model_fill(letters, one, text), model_fill(letters, other, text)
        return {"same": first == second, "begins": second.startswith(first), "ends": second.endswith(first),
                "less": model_word(letters, first, second) in ("less", "shorter")}[kind]

    return (kind, model_text(letters, one), model_text(letters, other)), holds


def some_condition(random, letters, deep, names=None):
    """A condition, and the function that tells whether it holds (of no use where names stand in it)."""
    kind = random.choice(["simple", "not", "and", "or"]) if deep > 0 else "simple"
    if kind == "simple":
        return model_simple(random, letters, names)
    one, one_holds = some_condition(random, letters, deep - 1, names)
    if kind == "not":
        return ("not", one), lambda text: not one_holds(text)
    other, other_holds = some_condition(random, letters, deep - 1, names)
    if kind == "and":
        return ("and", one, other), lambda text: one_holds(text) and other_holds(text)
    return ("or", one, other), lambda text: one_holds(text) or other_holds(text)


def model_condition_text(condition):
    """[10]: the text of a condition."""
    kind, *parts = condition
    if kind in ("and", "or"):
        return "(" + model_condition_text(parts[0]) + " " + kind + " " + model_condition_text(parts[1]) + ")"
    if kind == "not":
        return "not " + model_condition_text(parts[0])
    if kind == "named":
        return "named " + parts[0]
    return kind + "(" + ",".join(map(str, parts)) + ")"


def model_names(condition):
    """The names in a condition, from left to right, each one once."""
    if condition[0] == "named":
        return [condition[1]]
    if condition[0] in ("not", "and", "or"):
        return list(dict.fromkeys(name for part in condition[1:] for name in model_names(part)))
    return []


def some_turn(random, letters):
    return random.choice(all_turns(letters))
