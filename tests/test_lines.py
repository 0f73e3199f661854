"""Promises 11.1 and 11.2: words of units, lines read as trees, and trees told as lines."""

import copy
import random
import re
import unittest
from math import gcd

from tests.things import deep_list, deep_tuple, fails_with, wrong_fractions, wrong_numbers, wrong_things
from unitgrids.books import Book
from unitgrids.errors import BadLine, NoNumber, NoUnit
from unitgrids.lines import line_text, read_line
from unitgrids.words import unit_text

A, B, C = ("name", "a"), ("name", "b"), ("name", "c")
BINARY = ("above", "beside", "plus", "times")
# The greatest number of 40 digits, and the least one of more.
GREAT, TOO_GREAT = 10 ** 40 - 1, 10 ** 40


def tokens_of(text):
    return re.findall("[A-Za-z]+|[0-9]+|[^ ]", text)


def random_name(chance):
    return chance.choice(("a", "b", "c", "put", "let", "def", "drop", "open", "undo", "abcdefgh", "stars", "z"))


def random_tree(chance, depth):
    """An expression of some depth."""
    kind = chance.choice(BINARY * 2 + ("turned", "power", "piece", "name", "call", "star")) if depth > 0 else "name"
    if kind == "name":
        return (kind, random_name(chance))
    if kind == "call":
        return (kind, random_name(chance), tuple(random_tree(chance, depth - 1) for _ in range(chance.randint(1, 4))))
    one = random_tree(chance, depth - 1)
    if kind == "power":
        return (kind, one, chance.choice((1, 2, 9, 10, 39, 40)))
    if kind == "piece":
        return (kind, one) + tuple(chance.choice((0, 1, 5, 40, 41, 10 ** 39, GREAT)) for _ in range(4))
    return (kind, one, random_tree(chance, depth - 1)) if kind in BINARY else (kind, one)


def random_cell(chance, bases):
    if chance.random() < 0.3:
        return None
    found = []
    while len(found) < bases:
        top, bottom = chance.randint(-6, 6), chance.randint(1, 4)
        if gcd(top, bottom) == 1:
            found.append((top, bottom))
    return tuple(found)


def random_line(chance, bases):
    kind = chance.choice(("put", "let", "let", "def"))
    if kind == "put":
        columns = chance.randint(1, 4)
        return (kind, random_name(chance), tuple(tuple(random_cell(chance, bases) for _ in range(columns)) for _ in range(chance.randint(1, 4))))
    if kind == "let":
        return (kind, random_name(chance), random_tree(chance, chance.randint(0, 4)))
    names = chance.sample(("a", "b", "c", "put", "def", "x"), chance.randint(1, 4))
    return (kind, random_name(chance), tuple(names), random_tree(chance, chance.randint(0, 4)))


class UnitTextTest(unittest.TestCase):
    def test_words(self):
        self.assertEqual(unit_text(((0, 1),)), "0")
        self.assertEqual(unit_text(((1, 2), (-3, 1))), "1/2,-3")
        self.assertEqual(unit_text(((-5, 4), (0, 1), (6, 1))), "-5/4,0,6")
        big = 10 ** 39 + 7
        self.assertEqual(unit_text(((-big, big + 1),)), f"-{big}/{big + 1}")

    def test_no_unit(self):
        wrong = wrong_things() + [(((0, 1),) * 4), [(0, 1)], ((0, 1), None), "0", ".", ((2, 4),), ((0, 1), (1, 0)), deep_tuple((0, 1))]
        wrong += [(thing,) for thing in wrong_things() + wrong_fractions()] + [deep_list((0, 1))]
        for unit in wrong:
            fails_with(self, NoUnit, lambda: unit_text(unit))


class ReadTest(unittest.TestCase):
    def test_all_kinds(self):
        for text, tree in (
                ("put a = .", ("put", "a", ((None,),))),
                ("put a = . 1 ; -1 .", ("put", "a", ((None, ((1, 1),)), (((-1, 1),), None)))),
                ("put put=1/2 -3/4;. 6", ("put", "put", ((((1, 2),), ((-3, 4),)), (None, ((6, 1),))))),
                ("let x = a", ("let", "x", A)), ("let let = let", ("let", "let", ("name", "let"))),
                ("let x = a / b", ("let", "x", ("above", A, B))), ("let x = a | b", ("let", "x", ("beside", A, B))),
                ("let x = a + b", ("let", "x", ("plus", A, B))), ("let x = a * b", ("let", "x", ("times", A, B))),
                ("let x = a'", ("let", "x", ("turned", A))), ("let x = a ^ 40", ("let", "x", ("power", A, 40))),
                ("let x = a[0, 1, 2, 40]", ("let", "x", ("piece", A, 0, 1, 2, 40))),
                ("let x = a[0, 41, 1, 1]", ("let", "x", ("piece", A, 0, 41, 1, 1))),
                (f"let x = a[{GREAT},0,100,{10 ** 39}]", ("let", "x", ("piece", A, GREAT, 0, 100, 10 ** 39))),
                ("let x = a(b)", ("let", "x", ("call", "a", (B,)))),
                ("let x = a(b, c, a, b)", ("let", "x", ("call", "a", (B, C, A, B)))),
                ("let x = star(a)", ("let", "x", ("star", A))), ("let x = ((a))", ("let", "x", A)),
                ("def f(a) = a", ("def", "f", ("a",), A)), ("def f(a, b, c, f) = f", ("def", "f", ("a", "b", "c", "f"), ("name", "f"))),
                ("  let  x=a  ", ("let", "x", A)), ("let open = drop", ("let", "open", ("name", "drop")))):
            self.assertEqual(read_line(1, text), tree)

    def test_what_binds_closer(self):
        for text, tree in (
                ("a / b | c + a * b", ("above", A, ("beside", B, ("plus", C, ("times", A, B))))),
                ("a * b + c | a / b", ("above", ("beside", ("plus", ("times", A, B), C), A), B)),
                ("a / b / c", ("above", ("above", A, B), C)), ("a | b | c", ("beside", ("beside", A, B), C)),
                ("a + b + c", ("plus", ("plus", A, B), C)), ("a * b * c", ("times", ("times", A, B), C)),
                ("a * b'", ("times", A, ("turned", B))), ("(a * b)'", ("turned", ("times", A, B))),
                ("a'^2[0,0,1,1]'", ("turned", ("piece", ("power", ("turned", A), 2), 0, 0, 1, 1))),
                ("a^2^3", ("power", ("power", A, 2), 3)), ("a + (b + c)", ("plus", A, ("plus", B, C))),
                ("a / (b / c)", ("above", A, ("above", B, C))), ("star(a + b)' * c(a | b)^2", (
                    "times", ("turned", ("star", ("plus", A, B))), ("power", ("call", "c", (("beside", A, B),)), 2)))):
            self.assertEqual(read_line(2, "let x = " + text), ("let", "x", tree))

    def test_cells(self):
        for bases, word, cell in ((1, "0", ((0, 1),)), (1, "-6", ((-6, 1),)), (1, "6", ((6, 1),)), (1, "5/4", ((5, 4),)), (1, "-2/3", ((-2, 3),)),
                                  (2, "1,-1/2", ((1, 1), (-1, 2))), (3, "0,0,3/2", ((0, 1), (0, 1), (3, 2))), (3, ".", None)):
            self.assertEqual(read_line(bases, "put a = " + word), ("put", "a", ((cell,),)))
        self.assertEqual(read_line(2, "put a = 1 , - 1 / 2 0,0"), ("put", "a", ((((1, 1), (-1, 2)), ((0, 1), (0, 1))),)))
        self.assertEqual(read_line(1, "put a = 1-1.0"), ("put", "a", ((((1, 1),), ((-1, 1),), None, ((0, 1),)),)))
        self.assertEqual(len(read_line(1, "put a = " + " ; ".join([" ".join(["1"] * 10)] * 10))[2]), 10)

    def test_wrong_lines(self):
        ten, rows = " ".join(["1"] * 10), " ; ".join(["1"] * 10)
        for bases, text, place in (
                (1, "", 0), (1, "   ", 0), (1, "put", 1), (1, "put a", 2), (1, "put a =", 3), (1, "Put a = 1", 0), (1, "putt a = 1", 0), (1, "a = 1", 0),
                (1, "drop a", 0), (1, "open", 0), (1, "close", 0), (1, "leave", 0), (1, "undo", 0), (1, "redo", 0), (1, "=", 0), (1, "1", 0),
                (1, "put star = 1", 1), (1, "put abcdefghi = 1", 1), (1, "put A = 1", 1), (1, "put aB = 1", 1), (1, "put a1 = 1", 2), (1, "put 1 = 1", 1),
                (1, "put a = 7", 3), (1, "put a = 10", 3), (1, "put a = -0", 4), (1, "put a = -7", 4), (1, "put a = 00", 3), (1, "put a = 01", 3),
                (1, "put a = --1", 4), (1, "put a = 1/1", 5), (1, "put a = 1/5", 5), (1, "put a = 1/0", 5), (1, "put a = 2/4", 5), (1, "put a = 2/2", 5),
                (1, "put a = 0/2", 4), (1, "put a = 6/5", 4), (1, "put a = -6/2", 5), (1, "put a = 4/3", None), (1, "put a = 4/2", 5), (1, "put a = 3/3", 5),
                (1, "put a = 1/02", 5), (1, "put a = 1/-2", 5), (1, "put a = 1/2/3", 6), (1, "put a = 1,1", 4), (2, "put a = 1", 4), (2, "put a = 1 1", 4),
                (2, "put a = 1,1,1", 6), (2, "put a = .,1", 4), (3, "put a = 1,1;", 6), (2, "put a = 1,;", 5), (1, "put a = ..", None), (1, "put a = 1;", 5),
                (1, "put a = 1 1;1", 7), (1, "put a = 1 1;1;", 7), (1, "put a = 1 1;1 1 1", 8), (1, "put a = 1;1 1", 6), (1, "put a = 1;;", 5), (1, "put a = ;", 3),
                (1, f"put a = {ten} 1", 13), (1, f"put a = {ten} .", 13), (1, f"put a = {rows} ;", 22), (1, f"put a = {ten} /", 14), (1, f"put a = {ten}/1", 14), (1, "put a = b", 3),
                (1, "put a = 1 + 1", 4), (1, "put a = +1", 3), (1, "put a(b) = 1", 2), (1, "put a == 1", 3), (1, "put a = 1 #", 4),
                (1, "let x = ", 3), (1, "let x = a +", 5), (1, "let x = a b", 4), (1, "let x = +a", 3), (1, "let x = a + * b", 5), (1, "let x = ()", 4),
                (1, "let x = (a", 5), (1, "let x = (a))", 6), (1, "let x = a)", 4), (1, "let x = a,", 4), (1, "let x = (a, b)", 5), (1, "let x = star", 4),
                (1, "let x = star a", 4), (1, "let x = star()", 5), (1, "let x = star(a, b)", 6), (1, "let star = a", 1), (1, "let x = a'b", 5),
                (1, "let x = 'a", 3), (1, "let x = a^", 5), (1, "let x = a^0", 5), (1, "let x = a^41", 5), (1, "let x = a^40", None), (1, "let x = a^01", 5),
                (1, "let x = a^b", 5), (1, "let x = a^2 3", 6), (1, "let x = a^-1", 5), (1, "let x = a^(2)", 5), (1, "let x = a[", 5), (1, "let x = a[0,0,1]", 10),
                (1, "let x = a[0,0,1,41]", None), (1, "let x = a[0,0,1,40]", None), (1, "let x = a[0 0,1,1]", 6), (1, "let x = a[0,0,1,1,1]", 12), (1, "let x = a[0,0,1,1", 12),
                (1, "let x = a[00,0,1,1]", 5), (1, "let x = a[-1,0,1,1]", 5), (1, "let x = a[a,0,1,1]", 5), (1, "let x = [0,0,1,1]", 3), (1, "let x = f(a,b,c,d)", None),
                (1, "let x = f(a,b,c,d,e)", 12), (1, "let x = f(a,b,c,d", 12), (1, "let x = f(a,b,c,d,", 12), (1, "let x = f()", 5), (1, "let x = f(,a)", 5),
                (1, "let x = f(a,)", 7), (1, "let x = f(a)(b)", 7), (1, "let x = (f)(a)", 6), (1, "let x = f(a;b)", 6), (1, "let x = f((a,b))", 7),
                (1, "let x = f(g(a,b,c,d),b,c,d,e)", 21), (1, "let x = 1", 3), (1, "let x = .", 3), (1, "let x = abcdefghi", 3), (1, "let x = aBc", 3), (1, "let x = a = b", 4),
                (1, "let x(a) = a", 2), (1, "let x = a; b", 4), (1, "let x = a @ b", 4), (1, "let x = a\n", 4), (1, "let x\n= a", 2), (1, "let x = a - b", 4),
                (1, "def f = a", 2), (1, "def f() = a", 3), (1, "def f(a = a", 4), (1, "def f(a,) = a", 5), (1, "def f(a,a) = a", 5), (1, "def f(a,b,a) = a", 7),
                (1, "def f(a,b,c,d) = a", None), (1, "def f(a,b,c,d,e) = a", 10), (1, "def f(star) = a", 3), (1, "def f(1) = a", 3), (1, "def f(a) a", 5), (1, "def f(a) =", 6),
                (1, "def star(a) = a", 1), (1, "def f(a b) = a", 4), (1, "def (a) = a", 1), (1, "def f(a) = a a", 7), (1, "def f(abcdefghi) = a", 3)):
            if place is None:
                read_line(bases, text)
            else:
                fails_with(self, BadLine, lambda: read_line(bases, text), place=place)

    def test_numbers_of_pieces(self):
        """Any of up to 40 digits, at each of the four places."""
        for place in range(4):
            for number in (0, 1, 9, 10, 40, 41, 99, 100, 12345678901234567890, 10 ** 39, GREAT):
                numbers = [1, 1, 1, 1]
                numbers[place] = number
                text = f"let x = a[{', '.join(map(str, numbers))}]"
                tree = ("let", "x", ("piece", A) + tuple(numbers))
                self.assertEqual(read_line(1, text), tree)
                self.assertEqual(line_text(tree), text)
            for word in (f"{TOO_GREAT}", f"{GREAT}0", "9" * 5000, "0" * 40, "00", "01", "041", f"0{GREAT}", "-1", "+1", "", "a", "x1", ".", "(1)", "]", "'"):
                words = ["1", "1", "1", "1"]
                words[place] = word
                fails_with(self, BadLine, lambda: read_line(1, f"let x = a[{', '.join(words)}]"), place=5 + 2 * place)
                fails_with(self, BadLine, lambda: read_line(1, f"def f(a) = f(a[{', '.join(words[:place + 1])}"), place=10 + 2 * place)

    def test_wrong_tokens_behind_great_numbers(self):
        for number in (41, 10 ** 39, GREAT):
            for text, place in ((f"a[1, {number} 1, 1, 2]", 8), (f"a[1, {number}", 8), (f"a[1, {number}]", 8), (f"a[1, {number}, 1, 1, 1]", 12), (f"a[{number} a", 6),
                                (f"a[1, 1, 1, {number}", 12), (f"a[{number}, {number}, {number}, {number}] {number}", 13), (f"a[1, {number}, 01, 1]", 9)):
                fails_with(self, BadLine, lambda: read_line(1, "let x = " + text), place=place)

    def test_other_numbers_are_held_as_before(self):
        for number in (41, 100, 10 ** 39, GREAT, TOO_GREAT):
            for text, place in ((f"let x = a^{number}", 5), (f"put a = {number}", 3), (f"put a = -{number}", 4), (f"put a = 1/{number}", 5), (f"put a = 1 {number}", 4)):
                fails_with(self, BadLine, lambda: read_line(1, text), place=place)

    def test_cut_off_at_each_token(self):
        chance = random.Random(251)
        for _ in range(150):
            bases = chance.randint(1, 3)
            tokens = tokens_of(line_text(random_line(chance, bases)))
            for many in range(len(tokens)):
                try:
                    read_line(bases, " ".join(tokens[:many]))
                except BadLine as error:
                    self.assertEqual(error.place, many)
                # Where there is no piece, no number is as great as 41.
                for wrong in ("#", "Q", "abcdefghi", "007", f"{TOO_GREAT}" if "[" in tokens else "41", "\n", "%", "_", '"'):
                    fails_with(self, BadLine, lambda: read_line(bases, " ".join(tokens[:many] + [wrong] + tokens[many:])), place=many)
                    fails_with(self, BadLine, lambda: read_line(bases, " ".join(tokens[:many] + [wrong])), place=many)

    def test_one_token_told_otherwise(self):
        """What is ahead of the place can go on, and with the token there it can't."""
        chance = random.Random(252)
        words = ["a", "star", "put", "(", ")", "[", "]", ",", ";", ".", "-", "/", "|", "+", "*", "'", "^", "=", "0", "1", "2", "3", "6", "40", "41", f"{GREAT}", f"{TOO_GREAT}"]
        endings = ["a", ")", ") = a", "= a", "(a)", "1", "1 ; 1", ",0", ",0,0", "0,0", "]", ",1]", ",1,1]", ",1,1,1]", "1,1,1,1]", "1,1]", "1,1,1]", "a)", "= 1", "f = a",
                   "f(a) = a", "f = 1", "a) = a", ". .", ".", ". . .", "1]", "2", "", "0,0,0"]
        refused = 0
        for _ in range(1500):
            bases = chance.randint(1, 2)
            tokens = tokens_of(line_text(random_line(chance, bases)))
            place = chance.randrange(len(tokens))
            tokens[place] = chance.choice(words)
            try:
                read_line(bases, " ".join(tokens))
            except BadLine as error:
                refused += 1
                self.assertGreaterEqual(error.place, place)
                self.assertLessEqual(error.place, len(tokens))
                # No ending makes a right line of what is refused.
                for ending in endings if error.place < len(tokens) else ():
                    with self.assertRaises(BadLine):
                        read_line(bases, " ".join(tokens[:error.place + 1] + [ending]))
        self.assertGreater(refused, 800)

    def test_errors_in_their_order(self):
        for thing in wrong_numbers() + [0, 4, 10 ** 39]:
            fails_with(self, NoNumber, lambda: read_line(thing, "let x = a"))
            fails_with(self, NoNumber, lambda: read_line(thing, None))
            fails_with(self, NoNumber, lambda: Book(thing))
        for thing in wrong_things() + [0, ("let", "x", A), b"let x = a", ["let x = a"]]:
            if not isinstance(thing, str):
                fails_with(self, BadLine, lambda: read_line(2, thing), place=-1)

    def test_deep_lines(self):
        for many in (600, 9000):
            self.assertEqual(read_line(1, "let x = " + "(" * many + "a" + ")" * many), ("let", "x", A))
            fails_with(self, BadLine, lambda: read_line(1, "let x = " + "(" * many + "a" + ")" * (many - 1)), place=2 * many + 3)
            fails_with(self, BadLine, lambda: read_line(1, "let x = " + "(" * many), place=many + 3)
            fails_with(self, BadLine, lambda: read_line(1, "let x = " + "(" * many + "a" + ")" * (many + 1)), place=2 * many + 4)
        for begun, ended in (("f(", ")"), ("star(", ")"), ("(a + ", ")"), ("a * (", ")"), ("f(a, ", ")")):
            many = 18000 // (len(begun) + len(ended))
            tree = read_line(1, "let x = " + begun * many + "a" + ended * many)
            text = line_text(tree)
            again = line_text(read_line(1, text))
            self.assertEqual(text, again)
            self.assertIn(text, ("let x = " + begun * many + "a" + ended * many, "let x = " + "a + (" * (many - 1) + "a + a" + ")" * (many - 1),
                                 "let x = " + "a * (" * (many - 1) + "a * a" + ")" * (many - 1)))
        for sign in "'+":
            text = "let x = " + ("a" + "'" * 19000 if sign == "'" else " + ".join(["a"] * 4000))
            self.assertEqual(line_text(read_line(1, text)), text)


class TextTest(unittest.TestCase):
    def test_told_and_read(self):
        chance = random.Random(253)
        for _ in range(1500):
            bases = chance.randint(1, 3)
            tree = random_line(chance, bases)
            kept = copy.deepcopy(tree)
            text = line_text(tree)
            self.assertEqual(read_line(bases, text), tree)
            self.assertEqual(read_line(bases, "  ".join(tokens_of(text))), tree)
            self.assertEqual(read_line(bases, re.sub(" ", "", text).replace(tree[0], tree[0] + " ", 1)
                                       if tree[0] != "put" else text), tree)
            self.assertEqual(tree, kept)

    def test_blanks(self):
        for text in ("put a = 1 . -1/2 ; 0 0 6", "put b = 1,0 .", "let x = a / b | c + a * b", "let x = f(a, b + c)'^2[0, 1, 2, 3]",
                     "def f(a, b, c) = star(a * (b + c)) | g(a)", "let x = ((a / b) + c) * a", "let x = a", "def f(a) = a^40"):
            self.assertEqual(line_text(read_line(2 if text.startswith("put b") else 1, text)), text)

    def test_as_few_parentheses_as_can_be(self):
        chance = random.Random(254)
        pairs = 0
        for _ in range(500):
            tree = ("let", "x", random_tree(chance, 4))
            tokens = tokens_of(line_text(tree))
            begun = []
            for place, token in enumerate(tokens):
                if token == "(":
                    begun.append(place)
                elif token == ")":
                    start = begun.pop()
                    if tokens[start - 1].isalpha():
                        continue
                    pairs += 1
                    without = [one for k, one in enumerate(tokens) if k not in (start, place)]
                    try:
                        other = read_line(1, " ".join(without))
                    except BadLine:
                        continue
                    self.assertNotEqual(other, tree)
        self.assertGreater(pairs, 300)

    def test_by_hand(self):
        self.assertEqual(line_text(("let", "x", ("above", ("above", A, B), ("above", A, B)))), "let x = a / b / (a / b)")
        self.assertEqual(line_text(("let", "x", ("turned", ("plus", A, B)))), "let x = (a + b)'")
        self.assertEqual(line_text(("let", "x", ("power", ("piece", ("turned", A), 0, 0, 1, 2), 3))), "let x = a'[0, 0, 1, 2]^3")
        self.assertEqual(line_text(("let", "x", ("call", "f", (("above", A, B), ("star", ("above", A, B)))))), "let x = f(a / b, star(a / b))")
        self.assertEqual(line_text(("let", "x", ("times", ("times", A, B), ("beside", A, B)))), "let x = a * b * (a | b)")
        self.assertEqual(line_text(("put", "a", ((((1, 2), (-3, 1)), None), (None, ((0, 1), (0, 1)))))), "put a = 1/2,-3 . ; . 0,0")


if __name__ == "__main__":
    unittest.main()
