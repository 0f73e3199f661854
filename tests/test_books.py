"""Promises 12.1 to 13.1: books, answers and faults, why and outcomes, groups and taking back."""

import random
import time
import unittest
from collections import Counter
from fractions import Fraction

from tests import oracle
from tests.slowbook import SlowBook, random_line
from tests.things import as_pair, as_python, deep_list, deep_tuple, fails_with, wrong_numbers, wrong_things
from unitgrids.books import Book
from unitgrids.errors import (BadLine, GridError, NoAnswer, NoCell, NoLine, NoNumber, NothingDone, NoValues, TooLong,
                              Unknown)
from unitgrids.grids import Grid
from unitgrids.lines import line_text, read_line
from unitgrids.reckoning import outcome
from unitgrids.scripts import Script, many_grids
from unitgrids.verdicts import verdicts

N, M, D = ((0, 1),), ((1, 1),), ((-1, 1),)
FAULTS = ("round", "lacking", "kind", "spoilt", "shape")
# The greatest number that a line tells.
GREAT = 10 ** 40 - 1


def told(bases, *lines):
    book = Book(bases)
    for line in lines:
        book.do(line)
    return book


def names_that_are_none():
    return wrong_things() + [0, "A", "a ", "star", "abcdefghi", "", ("a",), ["a"], b"a", {"a": 1}, deep_tuple("a"), deep_list("a"), Book(1)]


def answers(book):
    found = {}
    for name in book.names():
        try:
            found[name] = book.answer(name)
        except NoAnswer:
            pass
    return found


class SessionTest(unittest.TestCase):
    """Long random sessions, beside a slow book that follows the document's words."""

    def sessions(self, seed, times, steps):
        for at in range(times):
            chance = random.Random(seed + at)
            bases = chance.randint(1, 3)
            slow, book = SlowBook(bases), Book(bases)
            for _ in range(steps):
                line = random_line(chance, bases)
                expected = slow.do(line)
                try:
                    found = book.do(line)
                except GridError:
                    found = None
                self.assertEqual(found, expected, line)
                yield chance, slow, book

    def test_what_changes_and_all_answers(self):
        kinds = Counter()
        for _, slow, book in self.sessions(3000, 40, 50):
            expected = slow.answers()
            self.assertEqual(book.names(), sorted(slow.trees))
            self.assertEqual(answers(book), expected)
            kinds.update(answer[0] if answer[0] in FAULTS else "none" for answer in expected.values())
            self.assertEqual((book.is_open(), book.undoable(), book.redoable()), (slow.group is not None, len(slow.past), len(slow.future)))
        self.assertGreater(min(kinds[kind] for kind in FAULTS + ("none",)), 200)

    def test_what_leads_to_what_and_texts(self):
        for _, slow, book in self.sessions(4000, 12, 40):
            self.assertEqual(book.text(), slow.text())
            for name in ("a", "b", "p", "q", "t", "f", "g", "x"):
                self.assertEqual(book.led_by(name), tuple(sorted(slow.led_by(name))))
                if name in slow.trees:
                    self.assertEqual(book.leads(name), tuple(sorted(slow.leads(name))))
                    self.assertEqual(book.line(name), line_text(slow.trees[name]))
                else:
                    fails_with(self, Unknown, lambda: book.leads(name), name=name)
                    fails_with(self, Unknown, lambda: book.line(name), name=name)

    def test_scripts_and_outcomes(self):
        reckoned = 0
        for chance, slow, book in self.sessions(5000, 25, 40):
            whole = [name for name, answer in answers(book).items() if answer[0] not in FAULTS]
            for name in whole[:2] if chance.random() < 0.3 else ():
                put = slow.put_names(name)
                script = book.script(name)
                self.assertIsInstance(script, Script)
                self.assertEqual(script.grids, tuple(Grid(slow.bases, slow.trees[other][2]) for other in put))
                last = many_grids(script) - 1
                self.assertEqual(verdicts(script, last), book.answer(name))
                values = oracle.random_values(chance, script, 5)
                expected = slow.outcome(name, dict(zip(put, values)))
                given = dict(zip(put, values))
                kept = dict(given)
                self.assertEqual(book.outcome(name, given), expected)
                self.assertEqual(given, kept)
                self.assertEqual(outcome(script, values, last), expected)
                reckoned += 1
        self.assertGreater(reckoned, 150)

    def test_why(self):
        shown = 0
        for chance, slow, book in self.sessions(6000, 50, 40):
            for name, answer in answers(book).items() if chance.random() < 0.4 else ():
                if answer[0] in FAULTS:
                    fails_with(self, NoAnswer, lambda: book.why(name, 0, 0))
                    continue
                for i, row in enumerate(answer):
                    for j, verdict in enumerate(row):
                        pair = book.why(name, i, j)
                        self.assertIs(pair is None, verdict is not None)
                        if pair is not None:
                            self.check_why(slow, name, i, j, pair)
                            shown += 1
        self.assertGreater(shown, 100)

    def check_why(self, slow, name, i, j, pair):
        units = []
        for bag in pair:
            self.assertIsInstance(bag, dict)
            total = [Fraction(0)] * slow.bases
            for (put, row, column), many in bag.items():
                self.assertIn(put, slow.put_names(name))
                self.assertGreater(many, 0)
                unit = slow.trees[put][2][row][column]
                total = [one + many * as_python(more) for one, more in zip(total, unit)]
            units.append(tuple(as_pair(one) for one in total))
        self.assertNotEqual(*units)

    def test_what_is_undone_is_as_it_was(self):
        """Taking all back leads to an empty book, doing all again to the same one, with all answers."""
        for seed in range(12):
            chance = random.Random(7000 + seed)
            book = Book(1)
            states = []
            for _ in range(40):
                try:
                    book.do(random_line(chance, 1))
                except GridError:
                    continue
            if book.is_open():
                book.do("leave")
            states.append((book.text(), answers(book)))
            while book.undoable():
                before = book.redoable()
                changed = book.do("undo")
                self.assertEqual(book.redoable(), before + 1)
                states.append((book.text(), answers(book)))
                self.assertEqual(changed, [name for name in sorted({**states[-1][1], **states[-2][1]})
                                           if states[-1][1].get(name) != states[-2][1].get(name)])
            self.assertEqual(states[-1], ("", {}))
            while book.redoable() and len(states) > 1:
                states.pop()
                book.do("redo")
                self.assertEqual((book.text(), answers(book)), states[-1])


class LinesTest(unittest.TestCase):
    def test_what_is_returned(self):
        book = Book(1)
        self.assertEqual(book.do("put a = . 1 ; -1 ."), ["a"])
        self.assertEqual(book.do("let s = star(a) * a"), ["s"])
        self.assertEqual(book.do("let t = s | b"), ["t"])
        self.assertEqual(book.answer("t"), ("lacking", "b"))
        self.assertEqual(book.do("put b = 1 ; 1"), ["b", "t"])
        self.assertEqual(book.do("put b = 1;1"), [])
        self.assertEqual(book.do("def f(x) = x + u"), [])
        self.assertEqual(book.do("let v = f(a)"), ["v"])
        self.assertEqual(book.do("put u = . 1 ; -1 ."), ["u", "v"])
        self.assertEqual(book.do("def f(x) = u + x"), [])
        self.assertEqual(book.do("def f(x) = u"), [])
        self.assertEqual(book.do("def f(x) = x * u"), ["v"])
        self.assertEqual(book.do("drop f"), ["v"])
        self.assertEqual(book.answer("v"), ("lacking", "f"))
        self.assertEqual(book.do("let f = a"), ["f", "v"])
        self.assertEqual(book.answer("v"), ("kind", "f"))
        self.assertEqual(book.do("def f(x) = x"), ["f", "v"])
        self.assertEqual(book.do("drop a"), ["a", "s", "t", "v"])
        self.assertEqual(book.answer("t"), ("spoilt", "s"))
        self.assertEqual(book.do("drop t"), ["t"])
        self.assertEqual(book.do("let a = a"), ["a", "s", "v"])
        self.assertEqual(book.answer("s"), ("round", "a"))
        found = book.do("drop b")
        found.append("c")
        self.assertEqual(book.names(), ["a", "f", "s", "u", "v"])

    def test_errors_change_nothing(self):
        book = told(1, "put a = 1 2 ; 2 3", "let b = a * a", "undo")
        state = (book.text(), book.journal(), book.undoable(), book.redoable(), book.is_open(), answers(book))
        for thing in wrong_things() + [0, b"let x = a", ["let x = a"], ("let", "x", ("name", "a")), Book(1)]:
            if not isinstance(thing, str):
                fails_with(self, NoLine, lambda: book.do(thing))
        for line, place in (("", 0), ("let x = a +", 5), ("let x = a b", 4), ("drop", 1), ("drop star", 1), ("drop a b", 2), ("drop abcdefghi", 1), ("drop 1", 1),
                            ("open a", 1), ("close;", 1), ("leave leave", 1), ("undo 2", 1), ("redo undo", 1), ("Undo", 0), ("opens", 0), ("put a = 1,1", 4),
                            ("rows", 0), ("(0, 1)", 0), ("let x = a\n", 4), ("open\n", 1)):
            fails_with(self, BadLine, lambda: book.do(line), place=place)
        for name in ("x", "drop", "b"):
            fails_with(self, Unknown, lambda: book.do("drop " + name), name=name)
        fails_with(self, NoLine, lambda: book.do("close"))
        fails_with(self, NoLine, lambda: book.do("leave"))
        self.assertEqual((book.text(), book.journal(), book.undoable(), book.redoable(), book.is_open(), answers(book)), state)
        self.assertEqual(book.do(" redo "), ["b"])

    def test_bases(self):
        for thing in wrong_numbers() + [0, 4, 10 ** 39]:
            fails_with(self, NoNumber, lambda: Book(thing))
        self.assertEqual(told(3, "put a = 1,0,-1/2 .").answer("a"), ((((1, 1), (0, 1), (-1, 2)), "nought"),))
        fails_with(self, BadLine, lambda: Book(2).do("put a = 1"), place=4)

    def test_empty_book(self):
        book = Book(2)
        self.assertEqual((book.names(), book.text(), book.journal(), book.is_open(), book.undoable(), book.redoable()), ([], "", "", False, 0, 0))
        for thing in names_that_are_none() + ["a", "put"]:
            for call in (book.answer, book.line, book.leads, book.script, lambda name: book.outcome(name, None), lambda name: book.why(name, None, None)):
                fails_with(self, Unknown, lambda: call(thing), name=thing)
        for thing in names_that_are_none():
            if thing != "rows":
                fails_with(self, Unknown, lambda: book.led_by(thing), name=thing)
        for name in ("a", "put", "abcdefgh"):
            self.assertEqual(book.led_by(name), ())

    def test_what_is_returned_is_new(self):
        book = told(1, "put a = 1 2", "let b = a' * a")
        found, pair = book.names(), book.why("b", 0, 1)
        self.assertIsNone(pair)
        found.clear()
        self.assertEqual(book.names(), ["a", "b"])
        self.assertEqual([type(book.leads("b")), type(book.led_by("a")), type(book.answer("b"))], [tuple] * 3)


class FaultTest(unittest.TestCase):
    def check(self, expected, *lines):
        self.assertEqual(told(1, "put a = 1 . ; . 1", "put w = 1 1 1", *lines).answer("x"), expected)

    def test_rounds(self):
        self.check(("round", "x"), "let x = x")
        self.check(("round", "c"), "let x = d", "let d = c", "let c = d")
        self.check(("round", "b"), "let x = c + b", "let b = b", "let c = c")
        self.check(("round", "f"), "def f(y) = f(y)", "let x = f(a)")
        self.check(("round", "f"), "def f(y) = g(y)", "def g(y) = f(y)", "let x = g(a)")
        self.check(("round", "f"), "def f(y) = x", "let x = f(a)")
        # A round goes ahead of all others, wherever it stands.
        self.check(("round", "y"), "let x = lost * w * w + f | y", "let y = y'")
        # Parameters are named by no one.
        self.check(((M, "nought"), ("nought", M)), "def f(f) = f", "let x = f(a)")
        self.check(((M, "nought"), ("nought", M)), "def f(x) = x", "let x = f(a)")

    def test_lacking(self):
        self.check(("lacking", "b"), "let x = b")
        self.check(("lacking", "b"), "let x = a + (b + c)")
        self.check(("lacking", "f"), "let x = f(b)")
        self.check(("lacking", "b"), "let x = b + c * w")
        self.check(("lacking", "b"), "def f(y) = y + b", "let x = f(a)")
        self.check(("lacking", "c"), "def f(y) = y + b", "let x = f(c)")
        self.check(("lacking", "let"), "let x = let")

    def test_kind(self):
        self.check(("kind", "f"), "def f(y) = y", "let x = f")
        self.check(("kind", "a"), "let x = a(a)")
        self.check(("kind", "f"), "def f(y) = y", "let x = f(a, a)")
        self.check(("kind", "f"), "def f(y, z) = y", "let x = f(lost)")
        self.check(("kind", "f"), "def f(y) = y", "let x = f(f)")
        self.check(("kind", "y"), "def f(y) = y(a)", "let x = f(a)")
        self.check(("kind", "f"), "def f(f) = f(f)", "let x = f(a)")
        self.check(("kind", "a"), "let x = a(lost)")
        self.check(("kind", "b"), "let b = lost", "let x = b(a)")

    def test_spoilt(self):
        self.check(("spoilt", "b"), "let b = w * w", "let x = b")
        self.check(("spoilt", "c"), "let b = lost", "let c = b", "let x = a + c + lost")
        self.check(("spoilt", "b"), "let b = w * w", "def f(y) = y + b", "let x = f(a)")
        self.check(("kind", "b"), "def b(y) = y + lost", "let x = b")

    def test_shape(self):
        self.check(("shape", "above"), "let x = a / w")
        self.check(("shape", "beside"), "let x = a | w")
        self.check(("shape", "plus"), "let x = a + w")
        self.check(("shape", "times"), "let x = w * w")
        self.check(("shape", "star"), "let x = star(w)")
        self.check(("shape", "power"), "let x = w^2")
        self.check(((M, M, M),), "let x = w^1")
        for piece in ("0, 0, 1, 4", "0, 0, 2, 1", "1, 0, 1, 1", "0, 3, 1, 1", "0, 0, 0, 1", "0, 0, 1, 0", "40, 40, 40, 40", "0, 41, 1, 1", "41, 0, 1, 1", "0, 0, 41, 1", "0, 0, 1, 41",
                      f"{GREAT}, 0, 1, 1", f"0, {GREAT}, 1, 1", f"0, 0, {GREAT}, 1", f"0, 0, 1, {GREAT}", f"{GREAT}, {GREAT}, {GREAT}, {GREAT}"):
            self.check(("shape", "piece"), f"let x = w[{piece}]")
            self.check(("shape", "piece"), f"def f(y) = y[{piece}]", "let x = w + f(w) + lost")
            self.check(("spoilt", "y"), f"let y = w[{piece}]", f"let x = y[{piece}]")
        self.check(((M,),), "let x = w[0, 2, 1, 1]")
        # The first that comes, from the left, parts ahead.
        self.check(("shape", "times"), "let x = w * w + lost")
        self.check(("lacking", "lost"), "let x = w * (w + lost)")
        self.check(("shape", "plus"), "def f(y, z) = y + z", "let x = f(a, w)")
        self.check(("shape", "star"), "def f(y, z) = y + z", "let x = f(a, star(w))")
        self.check(("shape", "beside"), "def f(y) = a", "let x = f(a | w)")

    def test_twelve_and_thirteen_rows(self):
        self.check(((M,) * 12,), "let x = w | w | w | w")
        self.check(("shape", "beside"), "let x = w | w | w | w | w")
        self.check(((M, M, M),) * 12, "let t = w / w / w", "let x = t / t / t / t")
        self.check(("shape", "above"), "let t = w / w / w", "let x = t / t / t / t / w")
        self.check(("shape", "beside"), "let t = w | w | w | w", "let x = t | w[0, 0, 1, 1]")
        self.check(((((2, 1),),) * 12,) * 12, "let t = w | w | w | w", "let x = t' * t")

    def test_makers_have_no_answer(self):
        book = told(1, "put a = 1", "def f(x) = x", "let b = lost")
        for call in (book.answer, lambda name: book.why(name, 0, 0), lambda name: book.outcome(name, {}), book.script):
            fails_with(self, NoAnswer, lambda: call("f"))
        for call in (lambda name: book.why(name, 0, 0), lambda name: book.outcome(name, {}), book.script):
            fails_with(self, NoAnswer, lambda: call("b"))
        self.assertEqual((book.line("f"), book.leads("f"), book.answer("b")), ("def f(x) = x", (), ("lacking", "lost")))

    def test_put_names(self):
        book = told(1, "put put = 1 . ; 0 -1/2", "let let = put'", "let def = put * let")
        self.assertEqual(book.answer("put"), ((M, "nought"), (N, ((-1, 2),))))
        self.assertEqual(book.answer("let"), ((M, N), ("nought", ((-1, 2),))))
        self.assertEqual(book.answer("def"), ((((2, 1),), M), (M, None)))
        self.assertEqual(book.text(), "let def = put * let\nlet let = put'\nput put = 1 . ; 0 -1/2\n")

    def test_leads(self):
        book = told(1, "put a = 1", "def f(x, y) = x + g(b)", "let p = f(a, q)", "let q = lost", "let r = r")
        self.assertEqual(book.leads("a"), ())
        self.assertEqual(book.leads("f"), ("b", "g"))
        self.assertEqual(book.leads("p"), ("a", "b", "f", "g", "lost", "q"))
        self.assertEqual(book.leads("r"), ("r",))
        self.assertEqual(book.led_by("lost"), ("p", "q"))
        self.assertEqual(book.led_by("b"), ("f", "p"))
        self.assertEqual(book.led_by("r"), ("r",))
        self.assertEqual(book.led_by("x"), ())
        fails_with(self, Unknown, lambda: book.leads("lost"), name="lost")


class WhyTest(unittest.TestCase):
    def test_errors_in_their_order(self):
        book = told(1, "put a = 1 2", "let b = a[0, 0, 1, 1] + a[0, 1, 1, 1]", "def f(x) = x", "let c = lost")
        self.assertIn(book.why("b", 0, 0), [({("a", 0, 0): 1}, {("a", 0, 1): 1}), ({("a", 0, 1): 1}, {("a", 0, 0): 1})])
        self.assertEqual((book.why("a", 0, 0), book.why("a", 0, 1)), (None, None))
        for thing in wrong_numbers() + [2, 10 ** 39]:
            fails_with(self, NoCell, lambda: book.why("a", thing, 0))
            fails_with(self, NoCell, lambda: book.why("a", 0, thing))
            fails_with(self, NoCell, lambda: book.why("b", thing, thing))
            fails_with(self, NoAnswer, lambda: book.why("f", thing, 0))
            fails_with(self, NoAnswer, lambda: book.why("c", thing, thing))
            fails_with(self, Unknown, lambda: book.why("d", thing, thing), name="d")

    def test_too_long(self):
        lines = ["put a = 0", "put b = 1", "let c = a^40", "let d = c^40", "let e = c * c * c * c * c * c * c * c * c * c"]
        book = told(1, *lines, "let x = d * e * (a + b)", "let y = d * e + d * e * b")
        # 1600 + 400 + 1 numbers are multiplied in each way.
        fails_with(self, TooLong, lambda: book.why("x", 0, 0), most=2000)
        fails_with(self, TooLong, lambda: book.why("y", 0, 0), most=2000)
        book.do("let e = c * c * c * c * c * c * c * c * c * a^39")
        one, other = book.why("x", 0, 0)
        self.assertEqual(sorted([sum(one.values()), sum(other.values())]), [2000, 2000])
        self.assertEqual(sorted(map(len, (one, other))), [1, 2])
        # A short way and a long one: it is the longer one that counts.
        book.do("let y = a + d * e * b * b")
        fails_with(self, TooLong, lambda: book.why("y", 0, 0), most=2000)

    def test_values(self):
        book = told(1, "put a = 1 .", "put b = . 0", "put c = 1", "let s = a + b", "def f(x) = a'", "let t = f(c)")
        one = (((1, 2), (0, 1)),)
        two = (((0, 1), (3, 1)),)
        self.assertEqual(book.outcome("s", {"a": one, "b": two}), (((1, 2), (3, 1)),))
        self.assertEqual(book.outcome("a", {"a": one}), one)
        self.assertEqual(book.outcome("t", {"a": one, "c": (((5, 1),),)}), (((1, 2),), ((0, 1),)))
        wrong = wrong_things() + [{"a": one}, {"a": one, "b": two, "c": (((1, 1),),)}, {"a": one, "c": two}, [("a", one), ("b", two)], {"a": one, "b": one},
                                  {"a": two, "b": two}, {"a": list(one), "b": two}, {"a": one, "b": None}, {"a": one, 1: two}, {"a": one, ("b",): two},
                                  {"a": (((-1, 2), (0, 1)),), "b": two}, {"a": (((0, 1), (0, 1)),), "b": two}, {"a": (((2, 4), (0, 1)),), "b": two}]
        wrong += [{"a": one, "b": thing} for thing in wrong_things()]
        for values in wrong:
            fails_with(self, NoValues, lambda: book.outcome("s", values))
        book.do("let s = a + lost")
        fails_with(self, NoAnswer, lambda: book.outcome("s", None))
        fails_with(self, NoAnswer, lambda: book.outcome("f", None))
        fails_with(self, Unknown, lambda: book.outcome("u", None), name="u")

    def test_scripts(self):
        book = told(1, "put a = 1", "put b = 2", "put c = 3", "let x = b", "let y = c * a", "def f(p) = b", "let z = f(c)", "let q = f(a)")
        self.assertEqual(book.script("a"), Script((Grid(1, ((M,),)),), ()))
        self.assertEqual(book.script("x").grids, (Grid(1, ((((2, 1),),),)),))
        self.assertEqual(book.script("y").grids, (Grid(1, ((M,),)), Grid(1, ((((3, 1),),),))))
        for name, put in (("x", 1), ("y", 2), ("z", 2), ("q", 2)):
            script = book.script(name)
            self.assertEqual(len(script.grids), put)
            self.assertEqual(verdicts(script, many_grids(script) - 1), book.answer(name))

    def test_what_is_named_twice_is_made_once(self):
        letters = "abcdefghijklmnopqrstuvwxyz"
        book = told(1, "put a = 1/3")
        for one, other in zip(letters, letters[1:]):
            book.do(f"let {other} = {one} * {one}")
        self.assertEqual(len(book.script("z").steps), 25)
        self.assertEqual(book.answer("z"), ((((2 ** 25, 3),),),))
        self.assertEqual(book.outcome("z", {"a": (((1, 1),),)}), (((1, 1),),))
        book.do("put a = 1/3 . ; 1/4 -5/4")
        self.assertEqual(book.answer("b"), ((((2, 3),), "nought"), (None, ((-5, 2),))))

    def test_script_greater_than_one_that_is_constructed(self):
        lines = [f"put {letter} = 0" for letter in "abcdefgh"]
        book = told(1, *lines, "let x = " + " + ".join("abcdefgh" * 5))
        script = book.script("x")
        self.assertEqual((len(script.grids), verdicts(script, many_grids(script) - 1)), (8, ((N,),)))
        self.assertEqual(book.outcome("x", {letter: (((1, 5),),) for letter in "abcdefgh"}), (((8, 1),),))


class GroupTest(unittest.TestCase):
    def test_groups(self):
        book = told(1, "put a = 1")
        self.assertEqual(book.do("open"), [])
        self.assertIs(book.is_open(), True)
        fails_with(self, NoLine, lambda: book.do("open"))
        self.assertEqual(book.do("let b = a"), ["b"])
        self.assertEqual(book.do("put a = 2"), ["a", "b"])
        self.assertEqual((book.undoable(), book.redoable()), (1, 0))
        fails_with(self, NoLine, lambda: book.do("undo"))
        fails_with(self, NothingDone, lambda: book.do("redo"))
        fails_with(self, NoLine, book.pack)
        self.assertEqual(book.do("close"), [])
        self.assertEqual((book.is_open(), book.undoable()), (False, 2))
        self.assertEqual(book.do("undo"), ["a", "b"])
        self.assertEqual(book.text(), "put a = 1\n")
        self.assertEqual(book.do("redo"), ["a", "b"])
        self.assertEqual(book.text(), "put a = 2\nlet b = a\n")

    def test_leave(self):
        book = told(1, "put a = 1", "let b = a")
        book.do("open")
        book.do("put a = 2")
        book.do("put a = 3")
        book.do("drop b")
        book.do("let c = a")
        self.assertEqual(book.do("leave"), ["a", "b", "c"])
        self.assertEqual((book.text(), book.undoable()), ("put a = 1\nlet b = a\n", 2))
        # What was taken back within is not told twice.
        book.do("open")
        book.do("put a = 2")
        book.do("put a = 1")
        self.assertEqual(book.do("leave"), [])

    def test_empty_groups_and_those_that_were_left(self):
        book = told(1, "put a = 1", "put a = 2", "undo")
        for lines in (("open", "close"), ("open", "leave")):
            for line in lines:
                self.assertEqual(book.do(line), [])
            self.assertEqual((book.undoable(), book.redoable()), (1, 1))
        self.assertEqual(book.do("redo"), ["a"])
        book.do("undo")
        # A definition in a group that is left: nothing can be done again any more.
        for line in ("open", "put b = 1", "leave"):
            book.do(line)
        self.assertEqual((book.undoable(), book.redoable()), (1, 0))
        fails_with(self, NothingDone, lambda: book.do("redo"))
        # A group whose lines come to nothing isn't empty.
        for line in ("open", "put b = 1", "drop b", "close"):
            book.do(line)
        self.assertEqual(book.undoable(), 2)
        self.assertEqual(book.do("undo"), [])
        self.assertEqual((book.undoable(), book.redoable()), (1, 1))

    def test_nothing_done_ahead_of_no_line(self):
        book = Book(1)
        for line in ("undo", "redo"):
            fails_with(self, NothingDone, lambda: book.do(line))
        book.do("open")
        for line in ("undo", "redo"):
            fails_with(self, NothingDone, lambda: book.do(line))
        book.do("leave")
        book = told(1, "put a = 1", "put b = 1", "undo", "open")
        for line in ("undo", "redo"):
            fails_with(self, NoLine, lambda: book.do(line))
        book.do("drop a")
        fails_with(self, NothingDone, lambda: book.do("redo"))
        self.assertEqual((book.undoable(), book.redoable()), (1, 0))

    def test_same_definitions_can_be_taken_back(self):
        book = told(1, "put a = 1", "put a = 1")
        self.assertEqual(book.undoable(), 2)
        self.assertEqual(book.do("undo"), [])
        self.assertEqual(book.names(), ["a"])
        self.assertEqual(book.do("undo"), ["a"])
        self.assertEqual((book.names(), book.redoable()), ([], 2))


class GreatPieceTest(unittest.TestCase):
    """Pieces of whatever numbers are right lines; those that don't fit are faults."""

    LINE = f"let x = a[0, {GREAT}, 1, 1]"

    def test_lines_are_done_and_kept(self):
        book = told(1, "put a = 1 0")
        self.assertEqual(book.do("let x = a[0, 41, 1, 1]"), ["x"])
        self.assertEqual((book.answer("x"), book.line("x")), (("shape", "piece"), "let x = a[0, 41, 1, 1]"))
        # Its answer stays the same fault.
        self.assertEqual(book.do(self.LINE), [])
        self.assertEqual((book.line("x"), book.text()), (self.LINE, f"put a = 1 0\n{self.LINE}\n"))
        self.assertEqual(book.do("let x = a[0, 1, 1, 1]"), ["x"])
        self.assertEqual(book.answer("x"), ((N,),))
        self.assertEqual(book.do("undo"), ["x"])
        self.assertEqual((book.answer("x"), book.leads("x"), book.led_by("a")), (("shape", "piece"), ("a",), ("x",)))
        for call in (lambda: book.why("x", 0, 0), lambda: book.outcome("x", {}), lambda: book.script("x")):
            fails_with(self, NoAnswer, call)
        self.assertEqual(book.do("put a = 1 ; 2"), ["a"])
        self.assertEqual(book.do("drop a"), ["a", "x"])
        self.assertEqual(book.answer("x"), ("lacking", "a"))

    def test_wrong_lines(self):
        book = told(1, "put a = 1 0", self.LINE)
        kept = (book.text(), book.journal(), book.undoable())
        for line, place in ((f"let x = a[0, {GREAT + 1}, 1, 1]", 7), ("let x = a[0, 041, 1, 1]", 7), ("let x = a[0, 41 1, 1]", 8), ("let x = a^41", 5), ("put a = 41", 3)):
            fails_with(self, BadLine, lambda: book.do(line), place=place)
        self.assertEqual((book.text(), book.journal(), book.undoable()), kept)


class LimitTest(unittest.TestCase):
    def test_names_of_many_terms(self):
        book = told(2, "put a = 1,0 0,0 ; 0,0 -1,0")
        start = time.perf_counter()
        for text in (" + ".join(["a"] * 4000), "(" * 4000 + "a" + " + a)" * 3000 + ")" * 1000, "a + (" * 2500 + "a" + ")" * 2500, "a" + "'" * 18000,
                     " * ".join(["a"] * 1500)):
            book.do("let x = " + text)
            self.assertEqual(len(book.answer("x")), 2)
            self.assertEqual(book.line("x"), line_text(read_line(2, book.line("x"))))
            self.assertEqual(verdicts(book.script("x"), many_grids(book.script("x")) - 1), book.answer("x"))
        book.do("let x = " + "f(" * 2000 + "a" + ")" * 2000)
        self.assertEqual(book.answer("x"), ("lacking", "f"))
        book.do("def f(y) = y + a")
        self.assertEqual(book.answer("x"), book.answer("a"))
        self.assertEqual(book.outcome("x", {"a": (((1, 2), (1, 3)), ((1, 5), (1, 1)))})[0][1], (667, 1))
        book.do("put a = 1,0 0,1 ; 0,0 0,0")
        book.do("let x = " + "a * (" * 900 + "a" + ")" * 900)
        one, other = book.why("x", 0, 0)
        self.assertEqual((sum(one.values()), sum(other.values())), (901, 901))
        self.assertLess(time.perf_counter() - start, 30)

    def test_rounds_of_many_names(self):
        letters = "abcdefghijklmnopqrstuvwxyz"
        names = [one + other for one in letters for other in letters]
        book = Book(1)
        for name, other in zip(names, names[1:] + names[:1]):
            book.do(f"let {name} = {other}")
        self.assertEqual({book.answer(name) for name in names}, {("round", "aa")})
        self.assertEqual(len(book.do("put zz = 1")), len(names))
        self.assertEqual({book.answer(name) for name in names}, {((M,),)})
        self.assertEqual(book.do("undo"), sorted(names))

    def test_long_histories_beside_what_takes_long(self):
        book = Book(2)
        rows = " ; ".join(" ".join(f"{i % 3 - j % 3},0" for j in range(10)) for i in range(10))
        book.do("put a = " + rows)
        book.do("put d = " + " ".join(["1,1"] * 10))
        book.do("let xa = (a / d)[0, 0, 10, 10]")
        start = time.perf_counter()
        for k in range(1, 120):
            one, other = (f"x{chr(97 + j % 26)}{'y' * (j // 26)}" for j in (k, k - 1))
            book.do(f"let {one} = star({other}) * a + a^10 | {other}[0, 0, 10, 2]" if k == 119 else f"let {one} = star({other}) * a + a^10")
        built = time.perf_counter() - start
        self.assertEqual(book.answer(one)[3][4], ((-1, 1), (0, 1)))
        start = time.perf_counter()
        for k in range(600):
            book.do(f"let z = a + {'a' if k % 2 else 'xa'}")
            book.do(f"put b = {k % 5},0")
            book.do("let c = b + b")
            if k % 3 == 0:
                book.do("undo")
                book.do("redo")
        for _ in range(300):
            book.do("undo")
        self.assertLess(time.perf_counter() - start, built + 10)
        # Nor is what goes back on something that has the same answer as ahead.
        start = time.perf_counter()
        for k in range(300):
            self.assertEqual(book.do("put d = " + " ".join([f"{k % 5},0"] * 10)), ["d"])
            self.assertEqual(book.do("let xa = a'' " if k % 2 else "let xa = a"), [])
        self.assertLess(time.perf_counter() - start, built + 10)
        # What was reckoned is not reckoned anew for what is taken back.
        self.assertGreater(len(book.do("put a = " + rows.replace("0,0", "1,1"))), 100)
        start = time.perf_counter()
        for _ in range(100):
            book.do("undo")
            book.do("redo")
        self.assertLess(time.perf_counter() - start, built + 10)


if __name__ == "__main__":
    unittest.main()
