"""[18], [19]: books, against a plain model."""

import unittest
from random import Random

from ownfill.books import MOST_NAMES, Book
from ownfill.conditions import parse_condition
from ownfill.errors import (CircularName, DuplicateName, FillError, InvalidCommand, InvalidLetters, InvalidName,
                            InvalidText, LimitReached, Missing, NameInUse, NothingLeft, TooMany, UnknownLetter,
                            UnknownName, WrongKind)
from ownfill.running import Run
from ownfill.tables import compiled
from tests.book_model import ModelBook, Refused, some_command
from tests.program_models import flat
from tests.samples import BAD_LETTERS

NAMES = ["a", "b", "c", "d", "e", "f", "g", "h", "long", "namedx", "callx", "abcdefgh"]
MARKS = {"InvalidCommand": "index", "LimitReached": "limit", "NothingLeft": None, "InvalidText": None}


def outcome_of(call):
    """What a call of a book raises, as the model says it; None if it raises nothing."""
    try:
        call()
    except (FillError, Missing) as error:
        mark = MARKS.get(error.code, "name")
        return (error.code, None if mark is None else getattr(error, mark))
    return None


def model_outcome(call):
    try:
        call()
    except Refused as refused:
        return refused.args
    return None


class Checked(unittest.TestCase):
    def check(self, book, model):
        """Everything that can be asked of a book, but for its tables."""
        self.assertEqual(book.names(), sorted(model.names))
        for kind in ("condition", "program"):
            self.assertEqual(book.names(kind=kind), sorted(n for n, (k, _) in model.names.items() if k == kind))
        self.assertEqual(len(book), len(model.names))
        self.assertEqual(repr(book), "Book(%d names)" % len(model.names))
        self.assertEqual(book.history(), (len(model.past), len(model.ahead)))
        self.assertEqual((book.capacity, book.computed, book.letters), (model.capacity, model.computed, "ab"))
        for name in NAMES + ["nobody"]:
            self.assertEqual(name in book, name in model.names)
            if name in model.names:
                self.assertEqual((book.kind_of(name), book.text_of(name)), model.names[name])
                self.assertEqual(book.users(name), model.users(name))
            else:
                for call in (book.kind_of, book.text_of, book.users, book.meaning, book.table,
                             lambda asked: book.start(asked, "?")):
                    with self.assertRaises(UnknownName) as caught:
                        call(name)
                    self.assertEqual(caught.exception.name, name)

    def apply(self, book, model, commands):
        """One call of apply in both; tells which error there was."""
        wanted = model_outcome(lambda: model.apply(commands))
        self.assertEqual(outcome_of(lambda: book.apply(*commands)), wanted, commands)
        return wanted


class Commands(Checked):
    def test_one_by_one(self):
        random = Random(141)
        seen = {}
        for _ in range(60):
            book = Book("ab", capacity=random.randint(2, 12))
            model = ModelBook(book.capacity)
            for _ in range(60):
                told = self.apply(book, model, [some_command(random, model, NAMES)])
                seen[told and told[0]] = seen.get(told and told[0], 0) + 1
                self.check(book, model)
        self.assertEqual(set(seen), {None, "InvalidCommand", "InvalidName", "WrongKind", "LimitReached", "InvalidText",
                                     "CircularName", "UnknownName", "NameInUse", "DuplicateName"})
        self.assertGreater(min(seen.values()), 10)

    def test_in_lists(self):
        random = Random(142)
        seen = {}
        for _ in range(100):
            book = Book("ab", capacity=random.randint(2, 12))
            model = ModelBook(book.capacity)
            for _ in range(25):
                commands = [some_command(random, model, NAMES) for _ in range(random.choice([0, 1, 2, 3, 4]))]
                told = self.apply(book, model, commands)
                seen[told and told[0]] = seen.get(told and told[0], 0) + 1
                self.check(book, model)
        self.assertGreater(seen[None], 300)
        self.assertGreater(seen["InvalidCommand"], 50)

    def check_errors(self, book, cases):
        for command, wanted in cases:
            names = book.names()
            with self.subTest(command):
                self.assertEqual(outcome_of(lambda: book.apply(command)), wanted)
                self.assertEqual(book.names(), names)

    def test_the_order_of_errors(self):
        book = Book("ab", capacity=4)
        book.apply(("condition", "c", "match(a*)"), ("condition", "d", "named c"),
                   ("program", "p", "while named d [fill b]"), ("program", "q", "call p"))
        self.check_errors(book, [
            (("condition", "C", "??"), ("InvalidName", "C")), (("program", "c", "??"), ("WrongKind", "c")),
            (("condition", "", "??"), ("InvalidName", "")), (("condition", "p", "named p"), ("WrongKind", "p")),
            (("condition", "new", "??"), ("LimitReached", 4)), (("condition", "c", "??"), ("InvalidText", None)),
            (("condition", "c", "skip"), ("InvalidText", None)), (("program", "p", "match(a)"), ("InvalidText", None)),
            (("condition", "c", "(named c and named nobody)"), ("CircularName", "c")),
            (("condition", "c", "(named nobody and named c)"), ("UnknownName", "nobody")),
            (("condition", "c", "(named p and named nobody)"), ("WrongKind", "p")),
            (("condition", "c", "(named d and named p)"), ("WrongKind", "p")),
            (("condition", "c", "(named d or match(a))"), ("CircularName", "c")),
            (("program", "p", "call q"), ("CircularName", "p")), (("program", "p", "call p"), ("CircularName", "p")),
            (("program", "p", "while named p [call nobody]"), ("CircularName", "p")),
            (("program", "q", "while named c [call c]"), ("WrongKind", "c")),
            (("program", "q", "call p; while named p [skip]"), ("WrongKind", "p")),
            (("program", "q", "while named q [skip]; call nobody"), ("CircularName", "q")),
            (("drop", "nobody"), ("UnknownName", "nobody")), (("drop", "c"), ("NameInUse", "d")),
            (("drop", "p"), ("NameInUse", "q")), (("rename", "nobody", "C"), ("UnknownName", "nobody")),
            (("rename", "c", "C"), ("InvalidName", "C")), (("rename", "c", "d"), ("DuplicateName", "d")),
            (("rename", "c", "c"), ("DuplicateName", "c")), (("drop", ""), ("UnknownName", "")),
            (("rename", "c", ""), ("InvalidName", "")), (("rename", "c", "abcdefghi"), ("InvalidName", "abcdefghi")),
        ])
        self.assertEqual(book.history(), (1, 0))

    def test_circles_of_many_names(self):
        for many in range(2, 12):
            names = NAMES[:many]
            for kind, first, using in (("condition", "match(a)", "named "), ("program", "skip", "call ")):
                book = Book("ab")
                book.apply((kind, names[0], first), *((kind, new, using + old) for old, new in zip(names, names[1:])))
                wanted = ("CircularName", names[0])
                self.check_errors(book, [((kind, names[0], using + name), wanted) for name in names])
                book.apply((kind, names[-1], first), (kind, names[0], using + names[-1]))
                self.assertEqual(book.meaning(names[0]), book.meaning(names[-1]))
        book = Book("ab")
        book.apply(("condition", "c", "match(a)"), ("program", "p", "while named c [skip]"), ("program", "q", "call p"),
                   ("program", "r", "if named c [call q] [call p]"))
        self.check_errors(book, [(("program", "p", "if named c [skip] [call r]"), ("CircularName", "p"))])

    def test_the_least_user(self):
        book = Book("ab")
        book.apply(("condition", "c", "match(a)"), ("program", "z", "while named c [skip]"),
                   ("condition", "m", "named c"), ("condition", "b", "named m"))
        self.check_errors(book, [(("drop", "c"), ("NameInUse", "m")), (("drop", "m"), ("NameInUse", "b"))])
        self.assertEqual((book.users("c"), book.users(name="b")), (["m", "z"], []))

    def test_commands_are_checked_first(self):
        book = Book("ab")
        good = ("condition", "c", "match(a)")
        for bad in ((), ("drop",), ("drop", "a", "b"), ("rename", "a"), ("condition", "a"), ("program", "a", "b", "c"),
                    ("undo",), ("", "a"), ("CONDITION", "a", "match(a)")):
            for before in ([], [good], [good, ("drop", "nobody")]):
                with self.assertRaises(InvalidCommand) as caught:
                    book.apply(*before, bad, ())
                self.assertEqual(caught.exception.index, len(before))
                self.assertEqual((book.names(), book.history()), ([], (0, 0)))

    def test_a_rename_of_what_is_used(self):
        book = Book("ab")
        book.apply(("condition", "c", "match(a)"), ("program", "p", "skip"),
                   ("program", "q", "while (named c or not named c) [call p; if named c [call p] [fail p]]"))
        book.apply(("rename", "c", "named"), ("rename", "p", "call"))
        self.assertEqual(book.text_of("q"), "while (named named or not named named) "
                                            "[call call; if named named [call call] [fail p]]")
        self.assertEqual((book.users("call"), book.names()), (["q"], ["call", "named", "q"]))
        book.undo()
        self.assertEqual(book.names(), ["c", "p", "q"])


class Steps(Checked):
    def test_undo_and_redo(self):
        random = Random(143)
        for _ in range(50):
            book = Book("ab", capacity=random.randint(2, 12))
            model = ModelBook(book.capacity)
            for _ in range(50):
                kind = random.choice(["apply", "apply", "undo", "redo", "capacity"])
                if kind == "apply":
                    many = random.choice([0, 1, 1, 1, 2, 3])
                    self.apply(book, model, [some_command(random, model, NAMES) for _ in range(many)])
                elif kind == "capacity":
                    most = random.randint(0, 14)
                    wanted = model_outcome(lambda: model.set_capacity(most))
                    if random.random() < 0.5:
                        self.assertEqual(outcome_of(lambda: book.set_capacity(most)), wanted)
                    else:
                        self.assertEqual(outcome_of(lambda: setattr(book, "capacity", most)), wanted)
                else:
                    wanted = model_outcome(getattr(model, kind))
                    self.assertEqual(outcome_of(getattr(book, kind)), wanted)
                self.check(book, model)

    def test_all_undone_and_redone(self):
        random = Random(144)
        for _ in range(20):
            book, model = Book("ab"), ModelBook()
            for _ in range(30):
                self.apply(book, model, [some_command(random, model, NAMES) for _ in range(random.choice([0, 1, 2]))])
            steps = len(model.past)
            for _ in range(2):
                for call in ("undo", "redo"):
                    for _ in range(steps):
                        getattr(model, call)()
                        self.assertIsNone(getattr(book, call)())
                        self.check(book, model)
                    with self.assertRaises(NothingLeft):
                        getattr(book, call)()
                    self.check(book, model)

    def test_empty_steps(self):
        book = Book("ab")
        self.assertIsNone(book.apply())
        book.apply(("condition", "c", "match(a)"))
        book.apply()
        self.assertEqual(book.history(), (3, 0))
        book.undo()
        book.undo()
        self.assertEqual((book.history(), book.names()), ((1, 2), []))
        with self.assertRaises(UnknownName):
            book.apply(("drop", "c"))
        self.assertEqual(book.history(), (1, 2))
        book.apply()
        self.assertEqual(book.history(), (2, 0))

    def test_twins(self):
        random = Random(145)
        for _ in range(25):
            pairs = [(Book("ab", capacity=6), ModelBook(6))]
            for _ in range(60):
                book, model = random.choice(pairs)
                kind = random.choice(["apply", "apply", "apply", "undo", "redo", "twin", "table", "capacity"])
                if kind == "apply":
                    self.apply(book, model, [some_command(random, model, NAMES)])
                elif kind == "twin" and len(pairs) < 4:
                    pairs.append((book.twin(), model.copy()))
                    self.assertEqual(pairs[-1][0], book)
                elif kind == "table":
                    programs = book.names(kind="program")
                    if programs:
                        ask_table(self, book, model, random.choice(programs))
                elif kind == "capacity":
                    most = random.randint(3, 12)
                    self.assertEqual(outcome_of(lambda: book.set_capacity(most)),
                                     model_outcome(lambda: model.set_capacity(most)))
                elif kind in ("undo", "redo"):
                    self.assertEqual(outcome_of(getattr(book, kind)), model_outcome(getattr(model, kind)))
                for one, other in pairs:
                    self.check(one, other)
            for one, first in pairs:
                for other, second in pairs:
                    self.assertEqual(one == other, first.names == second.names)


def ask_table(test, book, model, name, **more):
    """Asks for a table in both: it is compiled again only if the whole program is another one than the kept one."""
    whole = model.whole(name)
    if model.kept.get(name) != whole:
        model.kept[name] = whole
        model.computed += 1
    table = book.table(name, **more)
    test.assertEqual(book.computed, model.computed)
    test.assertEqual(book.meaning(name), whole)
    test.assertEqual(table, compiled("ab", flat(whole)))
    return table


class Tables(Checked):
    def test_computed(self):
        random = Random(146)
        kept = 0
        for _ in range(40):
            book, model = Book("ab"), ModelBook()
            for _ in range(60):
                kind = random.choice(["apply", "apply", "undo", "redo", "table", "table", "table"])
                programs = book.names(kind="program")
                if kind == "table" and programs:
                    before = model.computed
                    ask_table(self, book, model, random.choice(programs))
                    kept += before == model.computed
                elif kind == "apply":
                    self.apply(book, model, [some_command(random, model, NAMES[:6])])
                elif kind != "table":
                    self.assertEqual(outcome_of(getattr(book, kind)), model_outcome(getattr(model, kind)))
                self.assertEqual(book.computed, model.computed)
        self.assertGreater(kept, 200)

    def test_names_that_were_removed_or_renamed(self):
        book = Book("ab")
        book.apply(("condition", "c", "match(a*)"), ("program", "p", "while named c [fill {}b]"))
        first = book.table("p")
        book.apply(("rename", "c", "d"))
        self.assertEqual((book.table("p"), book.computed), (first, 1))
        book.apply(("rename", "p", "q"))
        self.assertEqual((book.table("q"), book.computed), (first, 2))
        book.apply(("program", "p", "while match(a*) [fill {ab}b]"))
        self.assertEqual((book.table("p", limit=0), book.computed), (first, 2))
        book.apply(("drop", "p"))
        book.apply(("program", "p", "skip"))
        self.assertEqual((len(book.table("p")), book.computed), (1, 3))
        book.undo()
        book.undo()
        self.assertEqual((book.table("p"), book.computed), (first, 4))
        book.apply(("condition", "d", "match(b)"))
        self.assertEqual((book.table("q") == first, book.computed), (False, 5))

    def test_blocks_inside_of_blocks_are_other_programs(self):
        book = Book("ab")
        book.apply(("program", "two", "fill a; fill {}b"), ("program", "p", "skip; call two"))
        self.assertEqual(book.meaning("p"), ("block", ("skip",), ("block", ("fill", "a"), ("fill", "{}b"))))
        table = book.table("p")
        book.apply(("program", "p", "skip; fill a; fill {}b"))
        self.assertEqual((book.table("p") == table, book.computed), (True, 2))

    def test_limits(self):
        book = Book("ab")
        book.apply(("condition", "c", "length(0,5)"), ("program", "p", "while not named c [fill {}a]"))
        for _ in range(2):
            with self.assertRaises(TooMany) as caught:
                book.table("p", limit=4)
            self.assertEqual((caught.exception.limit, book.computed), (4, 0))
        table = book.table(limit=5, name="p")
        self.assertEqual((book.computed, book.table("p", limit=1), book.computed), (1, table, 1))
        book.apply(("condition", "c", "length(0,7)"))
        with self.assertRaises(TooMany):
            book.table("p", limit=6)
        self.assertEqual(book.computed, 1)
        book.undo()
        self.assertEqual((book.table("p", limit=1), book.computed), (table, 1))
        book.apply(("program", "big", "if length(0,41) [skip] [while length(0,49) [skip]]"))
        with self.assertRaises(TooMany) as caught:
            book.table("big")
        self.assertEqual((caught.exception.limit, book.computed), (2000, 1))

    def test_wrong_kinds(self):
        book = Book("ab")
        book.apply(("condition", "c", "match(a)"), ("program", "p", "skip"))
        for call in (lambda: book.table("c", limit=0), lambda: book.start("c", "?")):
            with self.assertRaises(WrongKind) as caught:
                call()
            self.assertEqual(caught.exception.name, "c")
        with self.assertRaises(TooMany):
            book.table("p", limit=0)

    def test_runs(self):
        book = Book("ab")
        book.apply(("condition", "c", "length(0,3)"), ("program", "p", "fill {}a"),
                   ("program", "q", "while not named c [call p]; fail done"))
        run = book.start("q", "a")
        self.assertIs(type(run), Run)
        run.go(2)
        book.apply(("condition", "c", "match(.*)"), ("program", "p", "fail other"), ("rename", "q", "r"))
        self.assertEqual((run.go(100), run.present, run.state, run.word), (4, "aaa", "failed", "done"))
        other = book.start(text="ab", name="r")
        other.go(9)
        self.assertEqual((other.present, other.word, other.steps), ("ab", "done", 2))
        for text, position in (("x", 0), ("abc", 2)):
            with self.assertRaises(UnknownLetter) as caught:
                book.start("r", text)
            self.assertEqual(caught.exception.position, position)

    def test_meaning(self):
        book = Book("ab")
        book.apply(("condition", "c", "match(a)"), ("condition", "d", "not (named c or named c)"),
                   ("program", "p", "if named d [fill a; skip] [skip]"),
                   ("program", "q", "call p; while named c [call p]"))
        c = ("match", "a")
        d = ("not", ("or", c, c))
        p = ("if", d, ("block", ("fill", "a"), ("skip",)), ("skip",))
        self.assertEqual([book.meaning(name) for name in "cdpq"], [c, d, p, ("block", p, ("while", c, p))])
        self.assertEqual(book.meaning(name="c"), parse_condition("ab", "match(a)"))

    def test_a_tower_of_names(self):
        book = Book("ab")
        commands = [("condition", "a", "not " * 20 + "match(a)")]
        commands += [("condition", new, "not " * 19 + "named " + old) for old, new in zip("abcde", "bcdef")]
        commands += [("program", "g", "while named f [" * 10 + "fill b" + "]" * 10)]
        commands += [("program", new, "if named f [" * 10 + "call " + old + "] [skip]" * 10)
                     for old, new in zip("ghijk", "hijkl")]
        book.apply(*commands)
        self.assertEqual(len(book), 12)
        self.assertEqual(book.table("l").outcome("a"), compiled("ab", book.meaning("l")).outcome("a"))
        run = book.start("l", "a")
        run.go(1000)
        self.assertEqual(run.state, "ended")


class Whole(unittest.TestCase):
    def test_capacity(self):
        self.assertEqual((MOST_NAMES, Book("ab").capacity, Book("ab", capacity=1).capacity), (12, 12, 1))
        for most in (0, -1, 13, 100):
            with self.assertRaises(LimitReached) as caught:
                Book("ab", capacity=most)
            self.assertEqual(caught.exception.limit, 12)
        book = Book("ab", capacity=2)
        book.apply(("condition", "a", "match(a)"), ("condition", "b", "match(b)"))
        with self.assertRaises(LimitReached) as caught:
            book.apply(("condition", "c", "match(c)"))
        self.assertEqual(caught.exception.limit, 2)
        book.apply(("condition", "a", "match(b)"), ("rename", "b", "c"))
        for most in (0, 1, 13, -5):
            with self.assertRaises(LimitReached) as caught:
                book.capacity = most
            self.assertEqual((caught.exception.limit, book.capacity), (12, 2))
            with self.assertRaises(LimitReached) as caught:
                book.set_capacity(most)
            self.assertEqual((caught.exception.limit, book.capacity), (12, 2))
        book.capacity = 3
        self.assertIsNone(book.set_capacity(most=12))
        self.assertEqual(book.history(), (2, 0))

    def test_undo_and_redo_do_not_look_at_it(self):
        book = Book("ab")
        book.apply(("condition", "a", "match(a)"), ("condition", "b", "match(b)"), ("condition", "c", "match(a)"))
        book.apply(("drop", "a"), ("drop", "b"))
        book.capacity = 1
        book.undo()
        self.assertEqual((len(book), book.capacity), (3, 1))
        with self.assertRaises(LimitReached) as caught:
            book.apply(("condition", "d", "match(a)"))
        self.assertEqual(caught.exception.limit, 1)
        book.apply(("condition", "a", "match(b)"))
        with self.assertRaises(LimitReached) as caught:
            book.capacity = 2
        self.assertEqual(caught.exception.limit, 12)
        with self.assertRaises(LimitReached) as caught:
            book.apply(("drop", "a"), ("condition", "d", "match(a)"))
        self.assertEqual(caught.exception.limit, 1)
        twin = book.twin()
        self.assertEqual((len(twin), twin.capacity, twin.history()), (3, 1, (2, 0)))
        book.undo()
        book.undo()
        book.redo()
        self.assertEqual((len(book), book.capacity, book.history()), (3, 1, (1, 1)))

    def test_equal(self):
        one, other = Book("ab"), Book("ab", capacity=3)
        self.assertTrue(one == other and not one != other)
        one.apply(("condition", "a", "match(a)"), ("condition", "b", "match(b)"))
        self.assertNotEqual(one, other)
        other.apply(("condition", "b", "match(b)"))
        other.apply(("condition", "a", "match(a)"))
        self.assertEqual(one, other)
        other.apply(("condition", "a", "match(b)"))
        self.assertNotEqual(one, other)
        self.assertNotEqual(Book("ab"), Book("ba"))
        self.assertFalse(one == one.names())
        self.assertFalse(one in (None, 1, "Book", ["a", "b"]))
        program, condition = Book("ab"), Book("ab")
        program.apply(("program", "a", "skip"))
        condition.apply(("condition", "a", "match(a)"))
        self.assertNotEqual(program, condition)

    def test_letters(self):
        for letters in BAD_LETTERS:
            with self.subTest(letters), self.assertRaises(InvalidLetters):
                Book(letters, capacity=0)

    def test_new_lists(self):
        book = Book("ab")
        book.apply(("condition", "a", "match(a)"), ("program", "p", "while named a [skip]"))
        for call in (book.names, lambda: book.names(kind="program"), lambda: book.users("a")):
            before = call()
            self.assertIs(type(before), list)
            call().clear()
            self.assertEqual(call(), before)
        self.assertIs(type(book.history()), tuple)

    def test_errors_have_their_classes(self):
        book = Book("ab", capacity=1)
        book.apply(("program", "a", "skip"))
        for command, kind in ((("program", "A", "skip"), InvalidName), (("condition", "a", "match(a)"), WrongKind),
                              (("program", "b", "skip"), LimitReached), (("program", "a", "?"), InvalidText),
                              (("program", "a", "call a"), CircularName), (("program", "a", "call b"), UnknownName),
                              (("rename", "a", "a"), DuplicateName), (("drop",), InvalidCommand)):
            with self.assertRaises(kind) as caught:
                book.apply(command)
            self.assertIs(type(caught.exception), kind)
        book.capacity = 2
        book.apply(("program", "b", "call a"))
        with self.assertRaises(NameInUse):
            book.apply(("drop", "a"))


if __name__ == "__main__":
    unittest.main()
