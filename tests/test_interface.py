"""[2] and the interface: names, arguments and the places where they are defined."""

import doctest
import inspect
import pathlib
import unittest

from ownfill import templates, turns
from ownfill.templates import Template

FUNCTIONS = {
    "check_letters": "(letters)", "check_text": "(letters, text)", "is_turn": "(letters, turn)",
    "turned": "(letters, turn, text)", "after": "(letters, one, other)", "undone": "(letters, turn)",
    "order_of": "(letters, turn)", "turns_made": "(letters, turns)", "kept_letters": "(letters, one, other)",
}
METHODS = {
    "__init__": "(self, letters, text)", "row": "(self)", "parts": "(self)", "text": "(self)", "fill": "(self, text)",
    "length": "(self, size)", "put": "(self, other)", "turned": "(self, turn)", "mirrored": "(self)",
    "__add__": "(self, other)", "__eq__": "(self, other)", "__len__": "(self)", "__str__": "(self)",
    "__repr__": "(self)",
}
CLASS_METHODS = {"fixed": "(cls, letters, text)", "blank": "(cls, letters, *, turn=None)"}
PROPERTIES = ["letters", "blanks", "size"]

EXAMPLE = """
>>> from ownfill.templates import Template
>>> one = Template('ab', 'a{}b{ba}')
>>> [one.fill('aab'), one.put(Template('ab', '{}a')).text(), one.parts()]
['aaabbbba', 'a{}ab{ba}b', [('text', 'a'), ('blank', 'ab'), ('text', 'b'), ('blank', 'ba')]]
"""


class Interface(unittest.TestCase):
    def test_functions_of_turns(self):
        for name, wanted in FUNCTIONS.items():
            function = getattr(turns, name)
            self.assertEqual((name, str(inspect.signature(function))), (name, wanted))
            self.assertEqual(function.__module__, "ownfill.turns")

    def test_template_has_its_own_methods(self):
        self.assertEqual(Template.__module__, "ownfill.templates")
        own = vars(Template)
        for name, wanted in METHODS.items():
            self.assertEqual((name, str(inspect.signature(own[name]))), (name, wanted))
        for name, wanted in CLASS_METHODS.items():
            self.assertIsInstance(own[name], classmethod)
            self.assertEqual((name, str(inspect.signature(own[name].__func__))), (name, wanted))
        for name in PROPERTIES:
            self.assertIsInstance(own[name], property)

    def run_examples(self, text, name):
        examples = doctest.DocTestParser().get_doctest(text, {}, name, name, 0)
        self.assertTrue(examples.examples)
        runner = doctest.DocTestRunner(verbose=False)
        self.assertEqual(runner.run(examples).failed, 0)

    def test_the_example_of_the_document(self):
        self.run_examples(EXAMPLE, "DOC.md")

    def test_the_examples_of_the_readme(self):
        readme = pathlib.Path(__file__).parent.parent / "README.md"
        self.run_examples(readme.read_text(encoding="utf-8").replace("```", ""), "README.md")

    def test_the_modules_keep_no_state(self):
        for module in (turns, templates):
            for name, value in vars(module).items():
                if not name.startswith("__"):
                    self.assertNotIsInstance(value, (list, dict, set), name)


if __name__ == "__main__":
    unittest.main()
