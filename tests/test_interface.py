"""[2] and the interface: names, arguments and the places where they are defined."""

import doctest
import importlib
import inspect
import pathlib
import unittest

from ownfill.books import Book
from ownfill.games import Game
from ownfill.machines import Machine
from ownfill.running import Run
from ownfill.tables import Table
from ownfill.templates import Template
from ownfill.values import Values

PACKAGE = pathlib.Path(__file__).parent.parent / "ownfill"
TWO = "(one, other)"
FUNCTIONS = {
    "turns": {
        "check_letters": "(letters)", "check_text": "(letters, text)", "is_turn": "(letters, turn)",
        "turned": "(letters, turn, text)", "after": "(letters, one, other)", "undone": "(letters, turn)",
        "order_of": "(letters, turn)", "turns_made": "(letters, turns)", "kept_letters": "(letters, one, other)",
    },
    "comparing": {
        "difference": "(one, other, text)", "compared": "(one, other, text)", "comparison": TWO, "equal_texts": TWO,
        "begins_texts": TWO, "ends_texts": TWO, "less_texts": TWO,
    },
    "machines": {
        "mapped": "(machine, answers)", "joined": TWO, "repeated": "(machine)", "mirrored": "(machine)",
    },
    "patterns": {"pattern_machine": "(letters, pattern)"},
    "conditions": {
        "parse_condition": "(letters, text)", "format_condition": "(condition)", "condition_names": "(condition)",
        "condition_machine": "(letters, condition)", "condition_holds": "(letters, condition, text)",
    },
    "programs": {
        "parse_program": "(letters, text)", "format_program": "(program)", "program_names": "(program)",
        "nodes_of": "(program)",
    },
    "chains": {
        "fills_size": "(letters, fills)", "fills_template": "(letters, fills, *, limit=400)",
        "fills_letter": "(letters, fills, text, place)",
    },
    "values": {"pulled": "(machine, template)"},
    "tables": {
        "compiled": "(letters, program, *, limit=2000)", "parted": "(one, other, *, limit=400)",
        "moment_texts": "(letters, program, condition, *, again=False, limit=2000)",
    },
    "asking": {"question": "(letters, size)", "read_template": "(letters, size, answer)"},
}
NUMBERS = {
    "turns": {"MOST_LETTERS": 4}, "conditions": {"MOST_MODULUS": 60}, "running": {"MOST_TEXT": 10000},
    "chains": {"MOST_PARTS": 400}, "values": {"MOST_VALUES": 2000}, "books": {"MOST_NAMES": 12},
}
METHODS = {
    Template: {
        "__init__": "(self, letters, text)", "row": "(self)", "parts": "(self)", "text": "(self)",
        "fill": "(self, text)", "length": "(self, size)", "put": "(self, other)", "turned": "(self, turn)",
        "mirrored": "(self)", "__add__": "(self, other)", "__eq__": "(self, other)", "__len__": "(self)",
        "__str__": "(self)", "__repr__": "(self)",
    },
    Machine: {
        "__init__": "(self, letters, rows, answers)", "rows": "(self)", "answers": "(self)", "answer": "(self, text)",
        "texts": "(self, answer, *, many=10)", "least_text": "(self, answer)", "count": "(self, answer, size)",
        "__and__": "(self, other)", "__or__": "(self, other)", "__invert__": "(self)", "__eq__": "(self, other)",
        "__len__": "(self)", "__repr__": "(self)",
    },
    Run: {
        "__init__": "(self, letters, program, text)", "step": "(self)", "back": "(self)", "go": "(self, many)",
        "__repr__": "(self)",
    },
    Values: {
        "__init__": "(self, letters, conditions, turns=(), *, limit=2000)", "value_of": "(self, text)",
        "first_text": "(self, value)", "holds": "(self, value)", "filled": "(self, fill, value)",
        "machine_with": "(self, answers)", "__len__": "(self)", "__repr__": "(self)",
    },
    Table: {
        "rows": "(self)", "outcome": "(self, text)", "result": "(self, text)", "ending": "(self)", "endless": "(self)",
        "failing": "(self, *, word=None)", "before": "(self, machine)", "sources": "(self, text)",
        "most_fills": "(self)", "__eq__": "(self, other)", "__len__": "(self)", "__repr__": "(self)",
    },
    Game: {
        "__init__": "(self, letters, rules, goal, *, limit=2000)", "winning": "(self)", "moves": "(self, text)",
        "choice": "(self, text)", "__len__": "(self)", "__repr__": "(self)",
    },
    Book: {
        "__init__": "(self, letters, *, capacity=12)", "set_capacity": "(self, most)", "apply": "(self, *commands)",
        "undo": "(self)", "redo": "(self)", "history": "(self)", "names": "(self, *, kind=None)",
        "kind_of": "(self, name)", "text_of": "(self, name)", "users": "(self, name)", "meaning": "(self, name)",
        "table": "(self, name, *, limit=2000)", "start": "(self, name, text)", "twin": "(self)",
        "__contains__": "(self, name)", "__eq__": "(self, other)", "__len__": "(self)", "__repr__": "(self)",
    },
}
CLASS_METHODS = {
    Template: {"fixed": "(cls, letters, text)", "blank": "(cls, letters, *, turn=None)"},
    Machine: {"always": "(cls, letters)", "never": "(cls, letters)", "only": "(cls, letters, text)"},
}
PROPERTIES = {
    Template: ["letters", "blanks", "size"], Machine: ["letters"], Run: ["present", "state", "word", "steps"],
    Values: ["letters"], Table: ["letters"], Game: ["letters"], Book: ["letters", "capacity", "computed"],
}
HOMES = {Template: "templates", Machine: "machines", Run: "running", Values: "values", Table: "tables", Game: "games",
         Book: "books"}

EXAMPLES = """
>>> from ownfill.templates import Template
>>> one = Template('ab', 'a{}b{ba}')
>>> [one.fill('aab'), one.put(Template('ab', '{}a')).text(), one.parts()]
['aaabbbba', 'a{}ab{ba}b', [('text', 'a'), ('blank', 'ab'), ('text', 'b'), ('blank', 'ba')]]

>>> from ownfill.comparing import comparison, equal_texts
>>> one, other = Template('ab', 'ab{}'), Template('ab', '{}ab')
>>> [comparison(one, other).answer('b'), list(equal_texts(one, other).texts(True, many=4))]
['less', ['', 'ab', 'abab', 'ababab']]

>>> from ownfill.programs import parse_program
>>> parse_program('ab', 'while not begins(a{},{}a) [fill {ba}a]; skip')
('block', ('while', ('not', ('begins', 'a{}', '{}a')), ('fill', '{ba}a')), ('skip',))

>>> from ownfill.tables import compiled
>>> table = compiled('ab', parse_program('ab', 'while not length(0,3) [fill {}{}a]'))
>>> [table.outcome('ab'), table.outcome('abab'), len(table)]
[('endless',), ('ends', ['{}{}a']), 3]
"""


class Interface(unittest.TestCase):
    def test_functions(self):
        for name, functions in FUNCTIONS.items():
            module = importlib.import_module("ownfill." + name)
            for function, wanted in functions.items():
                found = getattr(module, function)
                self.assertEqual((function, str(inspect.signature(found))), (function, wanted))
                self.assertEqual(found.__module__, "ownfill." + name)

    def test_numbers(self):
        for name, numbers in NUMBERS.items():
            for number, wanted in numbers.items():
                self.assertEqual(getattr(importlib.import_module("ownfill." + name), number), wanted)

    def test_classes_have_their_own_methods(self):
        for made, methods in METHODS.items():
            self.assertEqual(made.__module__, "ownfill." + HOMES[made])
            own = vars(made)
            for name, wanted in methods.items():
                self.assertEqual((name, str(inspect.signature(own[name]))), (name, wanted))
            for name, wanted in CLASS_METHODS.get(made, {}).items():
                self.assertIsInstance(own[name], classmethod)
                self.assertEqual((name, str(inspect.signature(own[name].__func__))), (name, wanted))
            for name in PROPERTIES[made]:
                self.assertIsInstance(own[name], property)

    def run_examples(self, text, name):
        examples = doctest.DocTestParser().get_doctest(text, {}, name, name, 0)
        self.assertTrue(examples.examples)
        runner = doctest.DocTestRunner(verbose=False)
        self.assertEqual(runner.run(examples).failed, 0)

    def test_the_examples_of_the_document(self):
        self.run_examples(EXAMPLES, "DOC.md")

    def test_the_number_of_hands(self):
        self.assertEqual(vars(Game)["HANDS"], 2)

    def test_the_examples_of_the_readme(self):
        readme = pathlib.Path(__file__).parent.parent / "README.md"
        self.run_examples(readme.read_text(encoding="utf-8").replace("```", ""), "README.md")

    def test_the_modules_keep_no_lists(self):
        for path in sorted(PACKAGE.glob("*.py")):
            module = importlib.import_module("ownfill." + path.stem)
            for name, value in vars(module).items():
                if not name.startswith("__"):
                    self.assertNotIsInstance(value, (list, set), name)


if __name__ == "__main__":
    unittest.main()
