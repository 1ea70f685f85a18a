import unittest

from lattices import HEXAGON, LINE, SQUARE

from gridmetric.errors import NoText
from gridmetric.grid import Grid
from gridmetric.lattice import Lattice
from gridmetric.sheet import is_name, read_line

WORDS = ("form", "alike", "group", "short", "nearest", "parts", "dual", "below", "above")
ALONE = ("form", "group", "parts", "dual", "above")

GOOD = (
    ("form a", ("form", "a")), ("group abcdefgh", ("group", "abcdefgh")), ("parts zz", ("parts", "zz")),
    ("dual empty", ("dual", "empty")), ("above lets", ("above", "lets")),
    ("alike a b", ("alike", "a", "b")), ("alike a a", ("alike", "a", "a")),
    ("short a 0", ("short", "a", 0)), ("short a 9999", ("short", "a", 9999)),
    ("short a 201", ("short", "a", 201)), ("below b 1", ("below", "b", 1)),
    ("below b 61", ("below", "b", 61)), ("below b 9999", ("below", "b", 9999)),
    ("nearest a 1 / 2", ("nearest", "a", (1,), 2)),
    ("nearest a -1 0 9999 -9999 / 9999", ("nearest", "a", (-1, 0, 9999, -9999), 9999)),
    ("nearest a 1 2 3 4 5 6 7 / 1", ("nearest", "a", (1, 2, 3, 4, 5, 6, 7), 1)),
    ("", ("empty",)), (" ", ("empty",)), ("     ", ("empty",)), (" " * 2000, ("empty",)),
    ("#", ("empty",)), ("# form a", ("empty",)), ("#form a", ("empty",)), ("##", ("empty",)),
    ("#" + "~" * 1999, ("empty",)), ("form a" + " " * 1994, ("form", "a")),
    ("  form   a  ", ("form", "a")), ("   alike  a    b ", ("alike", "a", "b")),
    (" nearest   a  -3  4   /   5 ", ("nearest", "a", (-3, 4), 5)), (" short  a  7 ", ("short", "a", 7)),
)

LETS = (
    ("let a = 1", "a", LINE), ("let a=1", "a", LINE), ("let a =1", "a", LINE), ("let a= 1", "a", LINE),
    ("  let   a   =   1  ", "a", LINE), ("let abcdefgh = 2 1; 1 2", "abcdefgh", HEXAGON),
    ("let empty = 1 0; 0 1", "empty", SQUARE), ("let b = 2 -1; -1 2", "b", Lattice(((2, -1), (-1, 2)))),
    ("let a = 10000", "a", Lattice(((10000,),))), ("let a = 1" + " " * 1991, "a", LINE),
)

BAD = (
    "form", "form a b", "form  a  b", "form 1", "form A", "form a1", "form abcdefghi", "forma", "formA a",
    "Form a", "FORM a", "for a", "a", "form form", "form let", "form above", "group nearest",
    "alike a", "alike", "alike a b c", "alike a let", "alike short b", "alike a,b", "alike a A",
    "short a", "short", "short a 1 2", "short 1 a", "short a b", "short a -1", "short a 10000",
    "short a 01", "short a 00", "short a -0", "short a +1", "short a 1.0", "short a 1_0", "short a ''",
    "below a 0", "below a -1", "below a 10000", "below a 01", "below a", "below a 1 2", "below 2 a",
    "nearest a", "nearest a /", "nearest a / 1", "nearest a 1 /", "nearest a 1", "nearest a 1 2",
    "nearest a 1/2", "nearest a 1 /2", "nearest a 1/ 2", "nearest a 1 / 0", "nearest a 1 / -1",
    "nearest a 1 / 2 3", "nearest a 1 / 2 / 3", "nearest a / / 2", "nearest a 1 / 10000",
    "nearest a 10000 / 1", "nearest a -10000 / 1", "nearest a -0 / 1", "nearest a 01 / 1",
    "nearest a +1 / 1", "nearest a 1 / 01", "nearest a b / 1", "nearest 1 / 2", "nearest a --1 / 2",
    "nearest a - / 2", "nearest A 1 / 2", "nearest a 1 2 - 3", "nearest / 1 / 2",
    "short a 1 / 2", "form a 1 / 2", "below a 1 2 / 3", "x a 1 / 2", "alike a 1 / 2",
    " #", "  # form a", "form a # b", "form a #", "let", "let a", "let a 1", "let = 1", "let a b = 1",
    "let a =", "let a = ", "let a", "let 1 = 1", "let A = 1", "let form = 1", "let let = 1", "let=a 1",
    "leta = 1", "leta=1", "lets a = 1", "Let a = 1", "let abcdefghi = 1", "let a = = 1", "let a == 1",
    "let a = b", "let a = 1 = 1", "let a = 0", "let a = -1", "let a = 10001", "let a = 01",
    "let a = 1 2; 2 4", "let a = 1 0;0 1", "let a = 1  0; 0 1", "let a = 1 0 ; 0 1", "let a = 1 0;  0 1",
    "let a = 1 0", "let a = 1 2; 3 4", "let a = 1; 1", "let a = 1;", "let a = (1)", "let a = +1",
    "let a = 1 0 0 0 0; 0 1 0 0 0; 0 0 1 0 0; 0 0 0 1 0; 0 0 0 0 1", "a let = 1", "= 1", "let a-b = 1",
    "empty", "empty a", "done", "?", "/", "form  ", "alike  a ",
)

NO_LINES = (
    "form a" + " " * 1995, " " * 2001, "#" * 2001, "form\ta", "form a\n", "\n", "\t", "#\t", "# \x7f",
    "#\u00e4", "\u00a0", "form\u00a0a", "# %", "%", "form a %", "form %a", "\x1f", "#\x00", "# \u2028",
    "#" + "\U0001f600", "form a\r", "\u0661", "short a \u0661", "short a \u00b2", "form \u00e4",
    None, 5, True, (), ("form", "a"), ["form a"], ["form", "a"], b"form a", LINE, Grid(((1,),)), 0, (1, 2),
)


class ReadLineTest(unittest.TestCase):
    def test_each_command(self):
        for line, command in GOOD:
            self.assertEqual(read_line(line), command)

    def test_let(self):
        for line, name, lattice in LETS:
            self.assertEqual(read_line(line), ("let", name, lattice))

    def test_all_names_after_each_word(self):
        for word in ALONE:
            for name in ("a", "zzzzzzzz", "formed", "le", "empty", "done"):
                self.assertEqual(read_line(f"{word} {name}"), (word, name))
            for name in WORDS + ("let", "aaaaaaaaa", "", "aB", "a1", "a-", "_"):
                self.check_refused(f"{word} {name}")

    def test_lines_without_a_form(self):
        for line in BAD:
            self.check_refused(line)

    def test_what_is_no_line(self):
        for line in NO_LINES:
            self.check_refused(line)

    def check_refused(self, line):
        with self.assertRaises(NoText, msg=repr(line)) as caught:
            read_line(line)
        self.assertEqual(caught.exception.at, 0)

    def test_every_sign_in_a_comment(self):
        for code in range(0, 300):
            line = "# " + chr(code)
            if 32 <= code <= 126 and code != 37:
                self.assertEqual(read_line(line), ("empty",))
            else:
                self.check_refused(line)

    def test_2000_signs_are_a_line(self):
        long = "nearest a" + " 1" * 993 + " / 22"
        self.assertEqual(len(long), 2000)
        self.assertEqual(read_line(long), ("nearest", "a", (1,) * 993, 22))
        self.check_refused(long + "2")


class IsNameTest(unittest.TestCase):
    def test_names(self):
        for value in ("a", "z", "abcdefgh", "empty", "done", "forms", "le", "grid", "aaaaaaaa"):
            self.assertIs(is_name(value), True)

    def test_no_names(self):
        for value in WORDS + (
            "let", "", "abcdefghi", "A", "aB", "a1", "1", "a b", " a", "a ", "a\n", "a_", "-", "\u00e4",
            "\u00df", "\u0430", None, 5, True, False, (), ("a",), ["a"], b"a", LINE, NoText, {"a": 1},
        ):
            self.assertIs(is_name(value), False)


if __name__ == "__main__":
    unittest.main()
