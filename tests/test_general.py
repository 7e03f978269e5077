"""[1], [2]: what holds over the whole program."""

import unittest
from random import Random

from ownfill import asking, books, chains, comparing, conditions, errors, games, machines, patterns, programs, running
from ownfill import tables, templates, turns, values
from tests.program_models import some_program, some_small
from tests.samples import ALL_LETTERS, some_text

ALWAYS = ("match", ".*")
SKIP = ("skip",)


def full_book():
    book = books.Book("ab", capacity=3)
    book.apply(("condition", "c", "match(a)"), ("program", "p", "while named c [skip]"), ("program", "q", "call p"))
    return book


# Each error: its attribute, and calls that raise it with the worth that the attribute then has.
RAISED = {
    "InvalidLetters": (None, [
        (lambda: turns.check_letters("aa"), None), (lambda: templates.Template("a", "??"), None),
        (lambda: templates.Template.fixed("", "??"), None), (lambda: templates.Template.blank("aB"), None),
        (lambda: machines.Machine("a", [], []), None), (lambda: machines.Machine.always("a"), None),
        (lambda: machines.Machine.only("abcde", "?"), None), (lambda: patterns.pattern_machine("aa", ")"), None),
        (lambda: running.Run("a", ("call", "x"), "?"), None), (lambda: values.Values("a", [("named", "x")]), None),
        (lambda: tables.compiled("a", ("call", "x"), limit=0), None), (lambda: asking.question("", 1), None),
        (lambda: asking.read_template("", 1, "?"), None), (lambda: books.Book("", capacity=0), None)]),
    "UnknownLetter": ("position", [
        (lambda: turns.check_text("ab", "abc"), 2), (lambda: templates.Template.fixed("ab", "xa"), 0),
        (lambda: templates.Template("ab", "a").fill("bc"), 1), (lambda: machines.Machine.always("ab").answer("ac"), 1),
        (lambda: comparing.compared(*[templates.Template("ab", "{}")] * 2, "abab-"), 4),
        (lambda: conditions.condition_holds("ab", ALWAYS, "ca"), 0), (lambda: running.Run("ab", SKIP, "aac"), 2),
        (lambda: chains.fills_letter("ab", ["a"], "ax", 0), 1), (lambda: values.Values("ab", []).value_of("bbb?"), 3),
        (lambda: tables.compiled("ab", SKIP).outcome("c"), 0), (lambda: tables.compiled("ab", SKIP).result("ac"), 1),
        (lambda: tables.compiled("ab", SKIP).sources("aca"), 1),
        (lambda: games.Game("ab", [], ALWAYS).moves("c"), 0), (lambda: games.Game("ab", [], ALWAYS).choice("bc"), 1),
        (lambda: asking.read_template("ab", 0, "abx"), 2), (lambda: full_book().start("q", "ax"), 1)]),
    "LettersDiffer": (None, [
        (lambda: templates.Template("ab", "a").put(templates.Template("ba", "a")), None),
        (lambda: templates.Template("ab", "a") + templates.Template("abc", "a"), None),
        (lambda: machines.Machine.always("ab") & machines.Machine.always("ba"), None),
        (lambda: machines.joined(machines.Machine.always("ab"), machines.Machine.always("ba")), None),
        (lambda: comparing.difference(templates.Template("ab", "a"), templates.Template("ba", "a"), "?"), None),
        (lambda: values.pulled(machines.Machine.always("ab"), templates.Template("ba", "a")), None),
        (lambda: tables.compiled("ab", SKIP).before(machines.Machine.always("ba")), None),
        (lambda: tables.parted(tables.compiled("ab", SKIP), tables.compiled("ba", SKIP), limit=0), None)]),
    "ParseError": ("position", [
        (lambda: templates.Template("ab", "a{"), 1), (lambda: patterns.pattern_machine("ab", "a(b"), 3),
        (lambda: games.Game("ab", [(ALWAYS, 0, ["ab-"])], ALWAYS), 2)]),
    "InvalidText": (None, [
        (lambda: conditions.parse_condition("ab", "match(c)"), None), (lambda: programs.parse_program("ab", ""), None),
        (lambda: full_book().apply(("program", "p", "fill c")), None)]),
    "InvalidMachine": ("room", [
        (lambda: machines.Machine("ab", [[0, 0], [0]], [True, True]), 1), (lambda: machines.Machine("ab", [], []), 0)]),
    "InvalidGame": ("index", [
        (lambda: games.Game("ab", [(ALWAYS, 1, ["a"]), (("named", "x"), 2, ["?"])], ALWAYS), 1),
        (lambda: games.Game("ab", [(ALWAYS, 1, [])], ALWAYS), 0)]),
    "TooLong": ("limit", [
        (lambda: running.Run("ab", ("fill", "{}" * 5001), "ab").step(), 10000),
        (lambda: running.Run("ab", ("fill", "{}" * 5001), "ab").go(1), 10000),
        (lambda: chains.fills_template("ab", ["{}{}", "{}{}"], limit=3), 3),
        (lambda: tables.compiled("ab", ("fill", "{}" * 5001)).result("ab"), 10000),
        (lambda: tables.parted(tables.compiled("ab", ("fill", "{}aa")), tables.compiled("ab", SKIP), limit=2), 2)]),
    "TooMany": ("limit", [
        (lambda: values.Values("ab", [("length", 0, 3)], limit=2), 2),
        (lambda: tables.compiled("ab", ("while", ("length", 0, 3), SKIP), limit=2), 2),
        (lambda: tables.moment_texts("ab", SKIP, ("length", 0, 3), limit=1), 1),
        (lambda: games.Game("ab", [], ("length", 0, 3), limit=0), 0), (lambda: full_book().table("p", limit=1), 1)]),
    "NoTemplate": (None, [(lambda: asking.read_template("ab", 0, "a"), None)]),
    "InvalidName": ("name", [
        (lambda: full_book().apply(("condition", "C", "??")), "C"),
        (lambda: full_book().apply(("rename", "c", "")), "")]),
    "WrongKind": ("name", [
        (lambda: full_book().apply(("condition", "p", "??")), "p"), (lambda: full_book().table("c", limit=0), "c"),
        (lambda: full_book().start("c", "?"), "c"), (lambda: full_book().apply(("program", "q", "call c")), "c")]),
    "CircularName": ("name", [
        (lambda: full_book().apply(("program", "p", "call q")), "p"),
        (lambda: full_book().apply(("condition", "c", "named c")), "c")]),
    "NameInUse": ("name", [(lambda: full_book().apply(("drop", "p")), "q")]),
    "DuplicateName": ("name", [(lambda: full_book().apply(("rename", "p", "q")), "q")]),
    "LimitReached": ("limit", [
        (lambda: full_book().apply(("condition", "d", "??")), 3), (lambda: full_book().set_capacity(2), 12),
        (lambda: setattr(full_book(), "capacity", 13), 12), (lambda: books.Book("ab", capacity=0), 12)]),
    "InvalidCommand": ("index", [(lambda: full_book().apply(("drop", "nobody"), ("drop",)), 1)]),
    "UnknownName": ("name", [
        (lambda: conditions.condition_machine("ab", ("named", "x")), "x"),
        (lambda: conditions.condition_holds("ab", ("not", ("named", "y")), "?"), "y"),
        (lambda: running.Run("ab", ("call", "x"), "?"), "x"), (lambda: values.Values("ab", [("named", "x")]), "x"),
        (lambda: tables.compiled("ab", ("call", "x")), "x"),
        (lambda: tables.moment_texts("ab", SKIP, ("named", "y")), "y"),
        (lambda: games.Game("ab", [(ALWAYS, 0, ["?"])], ("named", "x")), "x"),
        (lambda: full_book().meaning("x"), "x"), (lambda: full_book().apply(("drop", "x")), "x")]),
    "NothingLeft": (None, [
        (lambda: running.Run("ab", SKIP, "").back(), None), (lambda: books.Book("ab").undo(), None),
        (lambda: full_book().redo(), None)]),
}


class Errors(unittest.TestCase):
    def test_each_one(self):
        self.assertEqual(len(RAISED), 19)
        for name, (attribute, calls) in RAISED.items():
            kind = getattr(errors, name)
            base = errors.Missing if name in ("UnknownName", "NothingLeft") else errors.FillError
            for number, (call, worth) in enumerate(calls):
                with self.subTest(name, call=number):
                    with self.assertRaises(kind) as caught:
                        call()
                    error = caught.exception
                    self.assertIs(type(error), kind)
                    self.assertIsInstance(error, base)
                    self.assertIsInstance(error, LookupError if base is errors.Missing else ValueError)
                    self.assertEqual(error.code, name)
                    if attribute is not None:
                        self.assertEqual(getattr(error, attribute), worth)


class Questions(unittest.TestCase):
    def ask(self, letters, program, condition, text):
        """Many questions, all with new objects; the lists that are returned are spoilt afterwards."""
        table = tables.compiled(letters, program, limit=500)
        asked = values.Values(letters, [condition, ALWAYS], [letters[::-1]], limit=500)
        rules = [(condition, 0, ["{}" + letters[0], letters]), (ALWAYS, 1, ["{}"])]
        game = games.Game(letters, rules, ("length", 0, 2))
        run = running.Run(letters, program, text)
        run.go(3)
        lists = [table.rows(), asked.holds(0), list(programs.nodes_of(program)), programs.program_names(program),
                 conditions.condition_names(condition), templates.Template(letters, "{}").row()]
        rest = [table.outcome(text), table.most_fills(), table.ending(), table.endless(), table.failing(),
                table.before(machines.Machine.only(letters, text)), table.sources(text), asked.value_of(text),
                len(asked), asked.filled("{}{}", 0), asked.machine_with(["x"] * len(asked)),
                game.winning(), game.moves(text),
                game.choice(text), run.present, run.state, run.steps, repr(run), asking.question(letters, 2),
                tables.moment_texts(letters, program, condition), tables.parted(table, table)]
        told = [list(found) for found in lists] + rest
        shown = [repr(found) for found in told]
        for found in lists:
            found.clear()
        return told, shown

    def test_asked_twice(self):
        random = Random(151)
        for at in range(120):
            letters = ALL_LETTERS[at % len(ALL_LETTERS)]
            program, condition = some_program(random, letters, 2), some_small(random, letters)
            text = some_text(random, letters, 4)
            try:
                first = self.ask(letters, program, condition, text)
            except errors.TooMany:
                continue
            self.ask(letters, ("block", program, ("fill", "{}")), ("not", condition), text + letters[0])
            self.assertEqual(self.ask(letters, program, condition, text), first)

    def test_tuples_in_the_place_of_lists(self):
        one = machines.Machine("ab", ((1, 0), (1, 0)), (False, True))
        self.assertEqual(one, machines.Machine("ab", [[1, 0], [1, 0]], [False, True]))
        self.assertEqual(turns.turns_made("abc", ("bca",)), turns.turns_made("abc", ["bca"]))
        self.assertEqual(chains.fills_size("ab", ("{}a",)), (1, 1))
        self.assertEqual(chains.fills_template("ab", ("{}a", "b{}")).text(), "b{}a")
        self.assertEqual(chains.fills_letter("ab", ("{}a",), "b", 1), "a")
        asked = values.Values("ab", (("length", 0, 2),), ("ba",))
        self.assertEqual(asked.machine_with(("x", "y")).answer("a"), "y")
        game = games.Game("ab", ((ALWAYS, 0, ("{}a",)),), ("length", 0, 2))
        self.assertEqual(game.moves("a"), 1)

    def test_methods_that_return_nothing(self):
        book, run = books.Book("ab"), running.Run("ab", SKIP, "")
        self.assertEqual([book.apply(), book.undo(), book.redo(), book.set_capacity(3), run.step(), run.back()],
                         [None] * 6)

    def test_errors_change_nothing(self):
        book = full_book()
        book.table("p")
        book.apply()
        book.undo()
        before = (book.names(), book.history(), book.computed, book.capacity, book.text_of("p"))
        for name, (_, calls) in RAISED.items():
            for call, _ in calls:
                self.assertRaises((errors.FillError, errors.Missing), call)
        for call in (lambda: book.apply(("drop", "q"), ("drop", "c")), lambda: book.apply(("rename", "q", "r"), ()),
                     lambda: book.set_capacity(1), lambda: book.table("q", limit=0), lambda: book.start("q", "?")):
            self.assertRaises((errors.FillError, errors.Missing), call)
        self.assertEqual((book.names(), book.history(), book.computed, book.capacity, book.text_of("p")), before)


if __name__ == "__main__":
    unittest.main()
