import random
import sys
import unittest

from lattices import HEXAGON, LINE, SKEW_SQUARE, SQUARE

from gridmetric.checker import takes_group, takes_pair
from gridmetric.errors import Malformed, NoText
from gridmetric.grid import Grid, unit
from gridmetric.packing import plain, read_data, restored, write_data
from gridmetric.papers import group_paper, levels_paper, pair_paper

LONG = 10 ** 3999
ONE = Grid(((1, -2), (0, 3)))


def nested(deep, core=()):
    """A tuple with tuples nested so deep; the innermost one is the core."""
    for _ in range(deep - 1):
        core = (core,)
    return core


def drawn(source, deep):
    kind = source.randrange(4)
    if kind == 0 and deep > 0:
        return tuple(drawn(source, deep - 1) for _ in range(source.randrange(5)))
    if kind == 1:
        return "".join(source.choice("abz") for _ in range(source.randint(1, 8)))
    return source.choice((0, 1, -1, 10, source.randint(-10 ** 9, 10 ** 9)))


DATA = (
    (0, "0"), (7, "7"), (-12, "-12"), (10 ** 30, "1" + "0" * 30), ("a", "a"), ("grid", "grid"),
    ("abcdefgh", "abcdefgh"), ((), "()"), ((1,), "(1)"), (((),), "(())"), (((), ()), "(() ())"),
    ((1, "a", (2, ()), -3), "(1 a (2 ()) -3)"), (("alike", ("grid", ((1, 0), (0, -1)))),
    "(alike (grid ((1 0) (0 -1))))"), (LONG, "1" + "0" * 3999), (10 * LONG - 1, "9" * 4000),
    (-LONG, "-1" + "0" * 3999), (nested(40), "(" * 40 + ")" * 40),
    (nested(40, (1, "ab")), "(" * 40 + "1 ab" + ")" * 40),
)

NO_DATA = (
    True, False, None, [], [1], (1, [2]), (True,), ((1, None),), "", "abcdefghi", "Ab", "aB", "a b",
    "a1", "1", "-1", "a-b", "a_b", "\u00e4", "\u00df", "a\n", (1, "A"), 10 * LONG, -10 * LONG, 10 ** 5000,
    (10 ** 5000,), nested(41), nested(41, (1,)), nested(60), (1, nested(40)), ONE, (ONE,), SQUARE,
    ("grid", ONE), NoText, {},
)

NO_TEXT = (
    "", " ", "()()", "() ()", "1 2", "a b", "(", ")", ")(", "(()", "())", "( )", "(1 )", "( 1)",
    "(1  2)", " (1)", "(1) ", "(1)\n", "\n(1)", "(1\n2)", "(1\t2)", "(1,2)", "(1)(2)", "((1)(2))",
    "(1(2))", "((1)2)", "-0", "+1", "01", "00", "-01", "--1", "-", "1-", "(-)", "1a", "a1", "1.0",
    "0x1", "1_000", "A", "Ab", "aB", "abcdefghi", "(abcdefghi)", "\u00e4", "\u0661", "\u00b2", "'a'",
    "[1]", "[]", "None", "True", "1" + "0" * 4000, "-1" + "0" * 4000, "9" * 4301, "0" * 5000,
    "(" * 41 + ")" * 41, "(" * 41 + "1" + ")" * 41, "(" * 100000, "(" * 100000 + ")" * 100000,
    ")" * 1000, "a" * 10000, "(1 2) 3", "()a", "a()", "1()", "()1", "(a\u00a0b)", "(1\u20032)",
)


class PlainTest(unittest.TestCase):
    def test_grids_at_any_depth(self):
        rows = ("grid", ((1, -2), (0, 3)))
        for value, expected in (
            (ONE, rows), ((ONE,), (rows,)), (("alike", ONE), ("alike", rows)), ((), ()), (5, 5),
            ((1, (2, (ONE, ONE)), "a"), (1, (2, (rows, rows)), "a")), ("grid", "grid"),
            (Grid(()), ("grid", ())), (nested(60, (ONE,)), nested(60, (rows,))), (None, None),
        ):
            self.assertEqual(plain(value), expected)
            self.assertEqual(plain(plain(value)), expected)

    def test_only_in_tuples(self):
        held = [ONE]
        self.assertIs(plain((held,))[0], held)
        self.assertEqual(held, [ONE])

    def test_restored(self):
        rows = ("grid", ((1, -2), (0, 3)))
        for value in (
            ONE, (ONE,), ("alike", ONE), (), 5, "grid", (1, (2, (ONE, ONE)), "a"), Grid(()), None,
            nested(60, (ONE,)), ("grid",), ("grid", 1, 2), (1, "grid"), True, Grid(((), ())),
        ):
            self.assertEqual(restored(plain(value)), value)
        self.assertEqual(restored((rows, rows, 3)), (ONE, ONE, 3))
        self.assertIsInstance(restored((rows,))[0], Grid)
        self.assertEqual(restored(("grid", ())), Grid(()))

    def test_what_is_no_matrix(self):
        for second in (
            5, "ab", None, True, (1,), ((1,), 2), ((1,), (2, 3)), ((1, "a"),), ((True,),), (None,),
            ((1, 2), (3,)), ((1, (2,)),), ("grid", ((1,),)), ((), (1,)), SQUARE,
        ):
            for value in (("grid", second), (1, ("grid", second)), ((("grid", second),),)):
                with self.assertRaises(Malformed):
                    restored(value)

    def test_papers_go_there_and_back(self):
        for a, b in ((SQUARE, SKEW_SQUARE), (SQUARE, HEXAGON), (LINE, HEXAGON)):
            paper = pair_paper(a, b)
            back = restored(read_data(write_data(plain(paper))))
            self.assertEqual(back, paper)
            self.assertTrue(takes_pair(a, b, back))
        for a in (LINE, HEXAGON, SKEW_SQUARE):
            back = restored(read_data(write_data(plain(group_paper(a)))))
            self.assertEqual(back, group_paper(a))
            self.assertTrue(takes_group(a, back))
            self.assertEqual(plain(levels_paper(a)), levels_paper(a))

    def test_an_argument_stays(self):
        value = (1, [2], (ONE,))
        plain(value), restored((value, ("grid", [[1]])))
        self.assertEqual(value, (1, [2], (ONE,)))


class DataTest(unittest.TestCase):
    def test_the_written_form(self):
        for value, text in DATA:
            self.assertEqual(write_data(value), text)
            found = read_data(text)
            self.assertEqual(found, value)
            self.assertIs(type(found), type(value))

    def test_what_is_written_is_read(self):
        source = random.Random(61)
        for _ in range(400):
            value = drawn(source, 6)
            self.assertEqual(read_data(write_data(value)), value)

    def test_a_long_tuple(self):
        value = tuple(range(-5000, 5000)) + ("ab",) * 5000 + ((),) * 5000
        self.assertEqual(read_data(write_data(value)), value)

    def test_what_is_no_data(self):
        for value in NO_DATA:
            with self.assertRaises(Malformed):
                write_data(value)

    def test_data_that_is_nested_very_deep(self):
        value = ()
        for _ in range(100000):
            value = (value,)
        with self.assertRaises(Malformed):
            write_data(value)

    def test_what_is_no_text(self):
        for value in NO_TEXT + (None, 5, True, (), (1,), ["1"], b"1", ONE, SQUARE):
            with self.assertRaises(NoText) as caught:
                read_data(value)
            self.assertEqual(caught.exception.at, 0)

    def test_each_changed_text_is_refused_or_written_so(self):
        source = random.Random(62)
        text = write_data((1, -20, "ab", ((), (3, "c")), ()))
        for _ in range(3000):
            at = source.randrange(len(text) + 1)
            put = source.choice(("", " ", "(", ")", "-", "0", "1", "a", "B", "\n", "()", "1 "))
            changed = text[:at] + put + text[at + source.randrange(3):]
            try:
                self.assertEqual(write_data(read_data(changed)), changed)
            except NoText as error:
                self.assertEqual(error.at, 0)

    def test_limits_of_python_do_not_matter(self):
        self.assertLess(4000, sys.get_int_max_str_digits())
        self.assertEqual(read_data(write_data((LONG, -LONG))), (LONG, -LONG))
        self.assertEqual(unit(2).rows, restored(("grid", read_data("((1 0) (0 1))"))).rows)


if __name__ == "__main__":
    unittest.main()
