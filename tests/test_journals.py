"""Promises 14.1 and 14.2: journals, what is recovered of them, and merging."""

import random
import unittest
from itertools import product

from tests.slowbook import random_line
from tests.test_books import answers, told
from tests.things import deep_list, deep_tuple, fails_with, wrong_numbers, wrong_things
from unitgrids.books import Book
from unitgrids.errors import GridError, NoLine, NoNumber, NothingDone, NoText, OtherBases
from unitgrids.journals import merged, recovered


def journal_of(lines):
    """A journal by the document's words."""
    text, check = "", 1
    for number, line in enumerate(lines, start=1):
        for sign in f"{number} {line}":
            check = (check * 257 + ord(sign)) % 1000003
        text += f"{number} {check} {line}\n"
    return text


def random_book(seed, steps, bases=1):
    """A book, and all lines that it did."""
    chance = random.Random(seed)
    book, lines = Book(bases), []
    for _ in range(steps):
        line = chance.choice(("", " ")) + random_line(chance, bases).replace("=", chance.choice(("=", " = ")))
        try:
            book.do(line)
        except GridError:
            continue
        lines.append(line)
    return book, lines


def state(book):
    return (book.text(), answers(book), book.is_open(), book.undoable(), book.redoable(), book.journal())


class JournalTest(unittest.TestCase):
    def test_by_hand(self):
        self.assertEqual(Book(1).journal(), "")
        book = told(1, "put a = 1", " undo")
        self.assertEqual(book.journal(), journal_of(["put a = 1", " undo"]))
        self.assertRegex(book.journal(), "^1 [0-9]+ put a = 1\n2 [0-9]+  undo\n$")
        self.assertEqual(journal_of(["put a = . 1 ; -1 ."]), "1 485073 put a = . 1 ; -1 .\n")

    def test_all_lines_are_kept_as_they_were_passed(self):
        for seed in range(30):
            book, lines = random_book(seed, 40)
            self.assertEqual(book.journal(), journal_of(lines))

    def test_wrong_lines_are_not_kept(self):
        book = told(1, "put a = 1", "open")
        kept = book.journal()
        for line in ("let", "open", "drop b", "undo", "redo", None, 5):
            with self.assertRaises(GridError):
                book.do(line)
        self.assertEqual(book.journal(), kept)


class RecoveredTest(unittest.TestCase):
    def test_the_same_book(self):
        for seed in range(40):
            book, lines = random_book(seed, 40, 1 + seed % 3)
            other, many = recovered(1 + seed % 3, book.journal())
            if book.is_open():
                book.do("leave")
                lines.append("leave")
            self.assertEqual(many, len(lines))
            self.assertEqual(state(other), state(book))
            # It goes on as the book would.
            for line in ("let p = a * a", "undo", "put c = 1", "redo"):
                results = []
                for one in (book, other):
                    try:
                        results.append(one.do(line))
                    except GridError as error:
                        results.append(type(error))
                self.assertEqual(results[0], results[1])
            self.assertEqual(state(other), state(book))

    def check(self, text, lines):
        """That these lines are done, and leave if a group is open then."""
        found, many = recovered(1, text)
        expected = told(1, *lines)
        if expected.is_open():
            expected.do("leave")
        self.assertEqual(state(found), state(expected))
        self.assertEqual(many, len(lines) + (len(lines) > 0 and journal_of(lines) != expected.journal()))

    LINES = ["put a = 1 2", "let b = a'", "open", "put c = 3", "let d = b * a + b", "close", "undo", "redo", "open", "drop a", "leave", "def f(x) = x", "open", "drop f"]

    def test_cut_off_anywhere(self):
        text = journal_of(self.LINES)
        for place in range(len(text) + 1):
            self.check(text[:place], self.LINES[:text[:place].count("\n")])

    def test_spoilt_anywhere(self):
        text = journal_of(self.LINES)
        chance = random.Random(261)
        for place in range(len(text)):
            for sign in (chance.choice("abz019 ="), "\n", ""):
                if text[place:place + 1] != sign:
                    self.check(text[:place] + sign + text[place + 1:], self.LINES[:text[:place].count("\n")])
            spoilt = text[:place] + chance.choice("a1 ") + text[place:]
            if spoilt[:len(text)] != text:
                self.check(spoilt, self.LINES[:text[:place].count("\n")])

    def test_lines_twice_left_out_and_exchanged(self):
        whole = journal_of(self.LINES).splitlines(keepends=True)
        for k in range(len(whole)):
            self.check("".join(whole[:k + 1] + whole[k:]), self.LINES[:k + 1])
            if k < len(whole) - 1:
                self.check("".join(whole[:k] + whole[k + 1:]), self.LINES[:k])
                self.check("".join(whole[:k] + [whole[k + 1], whole[k]] + whole[k + 2:]), self.LINES[:k])
        # Told anew with right numbers it is another journal, and a right one.
        twice = self.LINES[:2] + self.LINES[1:]
        self.check(journal_of(twice), twice)

    def test_lines_that_can_not_be_done(self):
        for wrong in ("drop z", "close", "redo", "let q", "", "put a = 7", "nothing", "let q = a # b", "open open"):
            lines = self.LINES[:2] + [wrong] + self.LINES[2:]
            self.check(journal_of(lines), self.LINES[:2])
        lines = self.LINES[:4] + ["undo", "close"]
        self.check(journal_of(lines), self.LINES[:4])

    def test_other_forms(self):
        text = journal_of(["put a = 1"])
        for other in ("0" + text, " " + text, text.replace(" ", "  ", 1), text.replace("1 ", "1\t", 1), "\n" + text, text.replace(" put", "  put"),
                      text.replace("1 ", "1 0", 1), text.replace("1 ", "+1 ", 1), text.replace("\n", " \n"), text[:-1], "", "\n", "\n\n", "1", "1 ", "1 257"):
            self.check(other, [])
        self.check(text + "\n", ["put a = 1"])
        self.check(text + text, ["put a = 1"])
        self.check(text + "2", ["put a = 1"])

    def test_an_open_group_at_the_end(self):
        found, many = recovered(1, journal_of(["put a = 1", "open"]))
        self.assertEqual((many, found.is_open(), found.journal()), (3, False, journal_of(["put a = 1", "open", "leave"])))
        found, many = recovered(1, journal_of(["open", "put a = 1"]))
        self.assertEqual((many, found.names(), found.undoable()), (3, [], 0))
        found, many = recovered(1, journal_of(["open", "put a = 1", "close"]))
        self.assertEqual((many, found.names(), found.undoable()), (3, ["a"], 1))

    def test_pieces_of_great_numbers(self):
        for number in (41, 10 ** 40 - 1):
            lines = ["put a = 1 0", f"let x = a[0,{number},1,1]", f"def f(a) = a[{number},0,1,{number}]", "let y = f(x)"]
            self.check(journal_of(lines), lines)
            book = told(1, *lines)
            book.pack()
            self.assertEqual(state(recovered(1, book.journal())[0])[:2], state(book)[:2])
            self.assertEqual(merged(Book(1), Book(1), book), (
                ["put a = 1 0", f"def f(a) = a[{number}, 0, 1, {number}]", f"let x = a[0, {number}, 1, 1]", "let y = f(x)"], []))
        lines[1] = f"let x = a[0,{10 ** 40},1,1]"
        self.check(journal_of(lines), lines[:1])

    def test_other_bases(self):
        text = journal_of(["put a = 1", "let b = a"])
        self.assertEqual(recovered(2, text)[1], 0)
        self.assertEqual(recovered(2, journal_of(["let b = a", "put a = 1,0"]))[1], 2)

    def test_errors_in_their_order(self):
        for thing in wrong_numbers() + [0, 4, 10 ** 39]:
            fails_with(self, NoNumber, lambda: recovered(thing, ""))
            fails_with(self, NoNumber, lambda: recovered(thing, None))
        for thing in wrong_things() + [0, b"1 2 open\n", ["1"], deep_tuple(""), deep_list(""), Book(1)]:
            if not isinstance(thing, str):
                fails_with(self, NoText, lambda: recovered(1, thing))
        book, many = recovered(3, "")
        self.assertEqual((book.names(), many, type(book)), ([], 0, Book))

    def test_pack(self):
        for seed in range(20):
            book, _ = random_book(100 + seed, 40)
            if book.is_open():
                kept = state(book)
                fails_with(self, NoLine, book.pack)
                self.assertEqual(state(book), kept)
                book.do("close")
            before = (book.text(), answers(book))
            self.assertIsNone(book.pack())
            self.assertEqual((book.text(), answers(book)), before)
            self.assertEqual(book.journal(), journal_of(book.text().splitlines()))
            self.assertEqual((book.undoable(), book.redoable()), (0, 0))
            fails_with(self, NothingDone, lambda: book.do("undo"))
            fails_with(self, NothingDone, lambda: book.do("redo"))
            other, many = recovered(1, book.journal())
            self.assertEqual((other.text(), answers(other), many), before + (len(book.names()),))
            names = len(book.names())
            book.do("put z = 1")
            self.assertEqual((book.undoable(), book.do("undo"), book.undoable(), book.redoable()), (1, ["z"], 0, 1))
            self.assertEqual(book.journal().count("\n"), names + 2)
            self.assertEqual(recovered(1, book.journal())[1], names + 2)


class MergedTest(unittest.TestCase):
    def test_all_states_of_one_name(self):
        """Each name is for itself: here one of each kind of case."""
        choices = (None, "put {} = 1", "let {} = z", "def {}(x) = x")
        names = [one + other for one in "abcdefghij" for other in "abcdefghij"]
        cases = list(product(choices, repeat=3))
        books = [Book(1), Book(1), Book(1)]
        lines, clashing = [], []
        for name, case in zip(names, cases):
            for book, choice in zip(books, case):
                if choice is not None:
                    book.do(choice.format(name))
            base, one, other = case
            if one != base and other != base and one != other:
                clashing.append(name)
            elif one != base or other != base:
                new = one if one != base else other
                lines.append(f"drop {name}" if new is None else new.format(name))
        found = merged(*books)
        self.assertEqual(found, (lines, clashing))
        self.assertEqual([type(found), type(found[0]), type(found[1])], [tuple, list, list])
        base = books[0]
        for line in found[0]:
            base.do(line)
        for name, case in zip(names, cases):
            if name not in clashing:
                expected = case[1] if case[1] != case[0] else case[2]
                self.assertIs(name in base.names(), expected is not None)

    def test_by_hand(self):
        base = told(1, "put a = 1", "let b = a", "let c = b")
        one = recovered(1, base.journal())[0]
        other = recovered(1, base.journal())[0]
        self.assertEqual(merged(base, one, other), ([], []))
        for line in ("put a = 2", "drop c", "let n = a"):
            one.do(line)
        for line in ("let b = a*a", "let c = a", "let m = n"):
            other.do(line)
        self.assertEqual(merged(base, one, other), (["put a = 2", "let b = a * a", "let m = n", "let n = a"], ["c"]))
        self.assertEqual(merged(base, other, one), (["put a = 2", "let b = a * a", "let m = n", "let n = a"], ["c"]))
        other.do("drop c")
        self.assertEqual(merged(base, one, other), (["put a = 2", "let b = a * a", "drop c", "let m = n", "let n = a"], []))
        # The same definition, however it is told, is the same state.
        one.do("let b =( a*(a) )")
        self.assertEqual(merged(base, one, other)[1], [])
        self.assertEqual(merged(one, one, one), ([], []))

    def test_the_books_stay_as_they_are(self):
        books = [random_book(200 + k, 30)[0] for k in range(3)]
        before = [state(book) for book in books]
        first = merged(*books)
        self.assertEqual(merged(*books), first)
        self.assertEqual([state(book) for book in books], before)

    def test_deep_definitions(self):
        books = [told(1, "let x = " + "a + (" * many + "a" + ")" * many) for many in (2500, 2500, 2501)]
        self.assertEqual(merged(*books), ([books[2].line("x")], []))
        self.assertEqual(merged(books[2], books[0], books[1]), ([books[0].line("x")], []))

    def test_other_bases(self):
        for bases in ((1, 1, 2), (1, 2, 1), (2, 1, 1), (1, 2, 3), (3, 2, 2)):
            fails_with(self, OtherBases, lambda: merged(*[Book(one) for one in bases]))
        self.assertEqual(merged(Book(3), Book(3), Book(3)), ([], []))


if __name__ == "__main__":
    unittest.main()
