import unittest
from unittest import mock

from lattices import (
    CUBE, HEXAGON, LINE, LONG_SQUARE, ROOTS_4, SKEW_SQUARE, SQUARE, UNIT_4, near_by_box,
    vectors_by_box,
)
from papers_by_words import OTHER_VALUES, changes

from gridmetric import replies
from gridmetric.checker import takes_group, takes_pair
from gridmetric.grid import Grid, diagonal, unit
from gridmetric.lattice import Lattice, read_lattice
from gridmetric.least import form
from gridmetric.maps import all_maps, self_maps
from gridmetric.nested import above, sublattices
from gridmetric.packing import plain, restored
from gridmetric.papers import group_paper, levels_paper, pair_paper
from gridmetric.parts import part_lattices
from gridmetric.replies import is_right, reply_to

NAMES = {
    "a": HEXAGON, "b": SQUARE, "c": SKEW_SQUARE, "d": LINE, "e": LONG_SQUARE, "f": CUBE, "g": UNIT_4,
    "h": Lattice(((6, 2, -3), (2, 4, 1), (-3, 1, 5))), "i": Lattice(((4,),)),
    "j": Lattice(((1, 0), (0, 401))), "k": HEXAGON + LINE + LINE, "empty": Lattice(((7,),)),
    "l": Lattice(((118, -27, -21), (-27, 203, 71), (-21, 71, 26))),
}

LINES = (
    "let a = 1", "let zz = 2 1; 1 2", "", "# form", "form a", "form c", "form h", "short a 2", "short d 0",
    "nearest a 1 1 / 3", "parts k", "dual a", "dual b", "below a 2", "below a 61", "above i", "above j",
    "short a 201", "nearest a 1 / 2", "form q", "alike a q", "group q", "parts l", "short q 201", "x", "alike a",
)


def text_of(v):
    return "(" + ",".join(str(x) for x in v) + ")"


class ReplyTest(unittest.TestCase):
    def check(self, line, kind, text, data=()):
        found = reply_to(NAMES, line)
        self.assertEqual(found, (kind, text, data))
        self.assertIs(type(found), tuple)

    def test_the_examples_of_the_document(self):
        self.assertEqual(reply_to({"a": read_lattice("2 1; 1 2")}, "form a"), ("lattice", "2 -1; -1 2", ()))
        self.assertEqual(reply_to({"a": read_lattice("1")}, "nearest a 1 / 2"),
                         ("nearest", "(0) (1) at 1/4", ()))

    def test_lines_that_tell_nothing(self):
        for line in ("let a = 1", "let zz = 2 1; 1 2", "", "   ", "#", "# form a"):
            self.check(line, "done", "")

    def test_form(self):
        for name, lattice in NAMES.items():
            self.check(f"form {name}", "lattice", str(form(lattice)))
        self.check("form c", "lattice", "1 0; 0 1")

    def test_alike(self):
        for one, two in (("a", "b"), ("b", "c"), ("c", "b"), ("a", "a"), ("d", "a"), ("b", "e"), ("g", "g")):
            a, b = NAMES[one], NAMES[two]
            paper = pair_paper(a, b)
            text = "yes" if all_maps(a, b) else "no"
            self.check(f"alike {one} {two}", "alike", text, plain(paper))
            self.assertTrue(takes_pair(a, b, restored(plain(paper))))
        self.check("alike d a", "alike", "no", ("unlike", (), ()))
        kind, text, data = reply_to(NAMES, "alike b c")
        self.assertEqual((kind, text, data[0], data[1][0]), ("alike", "yes", "alike", "grid"))

    def test_group(self):
        for name in ("a", "b", "c", "d", "e", "f", "h"):
            lattice = NAMES[name]
            self.check(f"group {name}", "group", str(len(self_maps(lattice))), plain(group_paper(lattice)))
        self.assertEqual(reply_to(NAMES, "group g")[1], "384")
        data = reply_to(NAMES, "group d")[2]
        self.assertEqual(data, ("group", 2, (("grid", ((-1,),)),), ((), (0,)),
                                ("levels", (((1,), (((-1,),), ((1,),))),))))

    def test_short(self):
        for name in ("a", "b", "d", "e", "h", "empty"):
            for most in (0, 1, 2, 7, 20):
                vectors = vectors_by_box(NAMES[name], most)
                self.check(f"short {name} {most}", "vectors", " ".join(map(text_of, vectors)))
        self.check("short a 2", "vectors", "(-1,0) (-1,1) (0,-1) (0,1) (1,-1) (1,0)")
        self.check("short a 1", "vectors", "")
        self.assertEqual(len(reply_to(NAMES, "short d 200")[1].split(" ")), 28)

    def test_nearest(self):
        self.check("nearest a 1 1 / 3", "nearest", "(0,0) (0,1) (1,0) at 2/3")
        self.check("nearest b 3 -5 / 1", "nearest", "(3,-5) at 0/1")
        self.check("nearest d -1 / 2", "nearest", "(-1) (0) at 1/4")
        self.check("nearest f 9999 -9999 5000 / 9999", "nearest", "(1,-1,1) at 24990001/99980001")
        near = near_by_box(NAMES["h"], (5, -4, 3), 7, 7 * 7 * 9)
        vectors = sorted(v for norm, v in near if norm == near[0][0])
        told = reply_to(NAMES, "nearest h 5 -4 3 / 7")[1]
        self.assertEqual(told.partition(" at ")[0], " ".join(map(text_of, vectors)))

    def test_parts(self):
        for name, lattice in NAMES.items():
            if name != "l":
                texts = [str(part) for part in part_lattices(lattice)]
                self.check(f"parts {name}", "parts", " | ".join(texts))
        self.check("parts k", "parts", "1 | 1 | 2 1; 1 2")
        self.check("parts a", "parts", "2 1; 1 2")
        self.check("parts l", "error", "refused large")

    def test_dual(self):
        for name, text in (("a", "3"), ("b", "1"), ("d", "1"), ("i", "4"), ("j", "401"), ("e", "2")):
            self.check(f"dual {name}", "dual", text)
        self.assertEqual(reply_to({"a": Lattice(diagonal((2, 2, 6, 6)))}, "dual a"), ("dual", "2 2 6 6", ()))
        self.assertEqual(reply_to({"a": ROOTS_4}, "dual a"), ("dual", "2 2", ()))

    def test_below(self):
        for name, n in (("d", 1), ("a", 2), ("f", 3), ("g", 4)):
            for index in (1, 2, 6, 9):
                self.check(f"below {name} {index}", "below", str(len(sublattices(n, index))))
        self.check("below g 60", "below", "967200")
        self.check("below a 60", "below", str(len(sublattices(2, 60))))

    def test_above(self):
        for name in ("a", "b", "c", "d", "e", "f", "g", "h", "i", "k"):
            text = " ".join(str(index) for index, _ in above(NAMES[name]))
            self.check(f"above {name}", "above", text)
        self.check("above i", "above", "1 2")
        self.assertEqual(reply_to({"a": ROOTS_4}, "above a"), ("above", "1 2 2 2", ()))
        self.assertEqual(reply_to({"a": Lattice(((400,),))}, "above a"), ("above", "1 2 4 5 10 20", ()))

    def test_text_that_is_no_line(self):
        for line in ("form", "x", " #", "form A", "form a\n", "# %", "let a = 0", "let a = 1;", "form\ta",
                     "short a 10000", "below a 0", "nearest a / 2", None, 5, True, (), ["form a"], HEXAGON):
            self.check(line, "error", "text")

    def test_names_that_are_not_defined(self):
        for word in ("form", "group", "parts", "dual", "above"):
            self.check(f"{word} q", "error", "refused name")
        for line in ("alike q a", "alike a q", "alike q q", "short q 2", "below q 2", "nearest q 1 / 2"):
            self.check(line, "error", "refused name")
        self.assertEqual(reply_to({}, "form a"), ("error", "refused name", ()))
        self.assertEqual(reply_to({}, "let a = 1"), ("done", "", ()))

    def test_names_come_before_numbers(self):
        for line in ("short q 201", "below q 61", "nearest q 1 2 3 4 5 / 1", "alike q a"):
            self.check(line, "error", "refused name")

    def test_reading_comes_before_names(self):
        for line in ("short q -1", "below q 0", "nearest q 1 / 0", "form Q", "form q q", "alike q"):
            self.check(line, "error", "text")

    def test_numbers_that_are_too_large(self):
        for line in ("short a 201", "short a 9999", "below a 61", "below a 9999", "above j"):
            self.check(line, "error", "refused large")
        self.assertEqual(reply_to(NAMES, "short empty 200")[0], "vectors")
        self.assertEqual(reply_to(NAMES, "below a 60")[0], "below")

    def test_points_with_another_number_of_coordinates(self):
        for line in ("nearest a 1 / 2", "nearest a 1 2 3 / 2", "nearest d 1 2 / 1", "nearest g 1 2 3 / 4"):
            self.check(line, "error", "malformed")

    def test_names_stay(self):
        names = dict(NAMES)
        for line in LINES:
            reply_to(names, line)
        self.assertEqual(names, NAMES)
        self.assertEqual(list(names), list(NAMES))

    def test_equal_lines_have_equal_replies(self):
        for line in LINES + ("alike b c", "group a"):
            self.assertEqual(reply_to(NAMES, line), reply_to(dict(NAMES), line))
            if not line.startswith("#"):
                self.assertEqual(reply_to(NAMES, line), reply_to(NAMES, "  " + line + " "))


class IsRightTest(unittest.TestCase):
    def right(self, line, reply):
        found = is_right(NAMES, (line, reply))
        self.assertIsInstance(found, bool)
        return found

    def test_replies_are_right(self):
        for line in LINES + (None, 5, True, ("form", "a"), [], "alike b c", "alike a b", "group h", "alike d a"):
            self.assertTrue(self.right(line, reply_to(NAMES, line)))

    def test_a_changed_kind_text_or_data(self):
        for line in LINES + ("alike b c", "alike a b", "group d", "group a", 5):
            kind, text, data = reply_to(NAMES, line)
            for other in ("error", "lattice", "done", "", kind.upper(), None, 5, (kind,), HEXAGON):
                if other != kind:
                    self.assertFalse(self.right(line, (other, text, data)))
            for other in (text + " ", " " + text, text + "1", text.upper() + "?", None, 5, (text,), [text], ()):
                self.assertFalse(self.right(line, (kind, other, data)))
            for other in ((1,), ((),), [], None, 0, "", "()", ("alike",), (data, data), [data], HEXAGON):
                self.assertFalse(self.right(line, (kind, text, other)))

    def test_another_line(self):
        self.assertFalse(self.right("form a", reply_to(NAMES, "form b")))
        self.assertFalse(self.right("let a = 1", reply_to(NAMES, "form b")))
        self.assertFalse(self.right("form q", reply_to(NAMES, "form a")))
        self.assertFalse(self.right("above i", ("above", "1", ())))
        self.assertFalse(self.right("above i", ("above", "2 1", ())))
        self.assertFalse(self.right("short a 2", ("vectors", "(-1,0)", ())))

    def test_every_map_is_right(self):
        for m in all_maps(SQUARE, SKEW_SQUARE):
            self.assertTrue(self.right("alike b c", ("alike", "yes", plain(("alike", m)))))
            self.assertFalse(self.right("alike b c", ("alike", "no", plain(("alike", m)))))
        for m in (unit(2), Grid(((1, 0), (0, 2))), Grid(((1,),)), Grid(()), unit(3)):
            self.assertFalse(self.right("alike b c", ("alike", "yes", plain(("alike", m)))))

    def test_a_paper_of_another_lattice(self):
        self.assertFalse(self.right("alike a b", ("alike", "yes", plain(pair_paper(SQUARE, SKEW_SQUARE)))))
        self.assertFalse(self.right("alike b a", ("alike", "no", plain(pair_paper(HEXAGON, SQUARE)))))
        self.assertFalse(self.right("alike b c", ("alike", "no", ("unlike", (), ()))))
        self.assertFalse(self.right("group a", ("group", "8", plain(group_paper(SQUARE)))))
        same = ("unlike", levels_paper(SQUARE), levels_paper(SKEW_SQUARE))
        self.assertTrue(takes_pair(SQUARE, SQUARE, ("alike", unit(2))))
        self.assertFalse(self.right("alike b c", ("alike", "no", same)))

    def test_yes_for_no(self):
        paper = plain(pair_paper(HEXAGON, SQUARE))
        self.assertTrue(self.right("alike a b", ("alike", "no", paper)))
        for text in ("yes", "", "No", "no ", True, None):
            self.assertFalse(self.right("alike a b", ("alike", text, paper)))
        self.assertFalse(self.right("alike d a", ("alike", "yes", ("unlike", (), ()))))

    def test_other_papers_for_a_group(self):
        maps = self_maps(HEXAGON)
        words = group_paper(HEXAGON)[3]
        _, order, _, _, levels = group_paper(HEXAGON)
        products = [self.product(group_paper(HEXAGON)[2], word) for word in words]
        all_of_them = tuple((maps.index(m),) for m in products)
        paper = plain(("group", order, maps, all_of_them, levels))
        self.assertNotEqual(paper, reply_to(NAMES, "group a")[2])
        self.assertTrue(self.right("group a", ("group", "12", paper)))
        for text in ("11", "012", " 12", "+12", "", 12, None):
            self.assertFalse(self.right("group a", ("group", text, paper)))
        wrong = ("group", order, maps, all_of_them[::-1], levels)
        self.assertFalse(self.right("group a", ("group", "12", plain(wrong))))
        less = ("group", 11, maps, all_of_them[:11], levels)
        self.assertFalse(self.right("group a", ("group", "11", plain(less))))
        self.assertFalse(self.right("group a", ("group", "12", plain(less))))

    def product(self, maps, word):
        found = unit(2)
        for k in word:
            found = found * maps[k]
        return found

    def test_only_the_plain_form_is_right(self):
        for line, paper, text in (
            ("alike b c", pair_paper(SQUARE, SKEW_SQUARE), "yes"), ("group d", group_paper(LINE), "2"),
        ):
            kind = line.split(" ")[0]
            self.assertTrue(self.right(line, (kind, text, plain(paper))))
            self.assertFalse(self.right(line, (kind, text, paper)))
        rows = pair_paper(SQUARE, SKEW_SQUARE)[1].rows
        for grid in (list(rows), tuple(map(list, rows)), [list(row) for row in rows]):
            self.assertFalse(self.right("alike b c", ("alike", "yes", ("alike", ("grid", grid)))))
        first = all_maps(SQUARE, SQUARE)[-1].rows
        with_booleans = tuple(tuple(bool(x) for x in row) for row in first)
        self.assertEqual(first, with_booleans)
        self.assertTrue(self.right("alike b b", ("alike", "yes", ("alike", ("grid", first)))))
        self.assertFalse(self.right("alike b b", ("alike", "yes", ("alike", ("grid", with_booleans)))))

    def test_changed_papers(self):
        for line, text in (("group d", "2"), ("alike d i", "no"), ("alike b c", "yes")):
            kind, _, data = reply_to(NAMES, line)
            words = line.split(" ")
            for changed in changes(data):
                given = [NAMES[word] for word in words[1:]]
                expected = self.by_checker(words[0], given, text, changed)
                self.assertIs(self.right(line, (kind, text, changed)), expected)

    def by_checker(self, word, given, text, data):
        try:
            paper = restored(data)
        except ValueError:
            return False
        if plain(paper) != data:
            return False
        if word == "group":
            return takes_group(*given, paper) and str(paper[1]) == text
        return takes_pair(*given, paper) and {"alike": "yes", "unlike": "no"}[paper[0]] == text

    def test_nothing_but_the_checker_decides(self):
        entries = [(line, reply_to(NAMES, line)) for line in ("alike a b", "alike b c", "group a")]
        with mock.patch.multiple(replies, pair_paper=None, group_paper=None, form=None):
            for entry in entries:
                self.assertIs(is_right(NAMES, entry), True)
        with mock.patch.multiple(replies, takes_pair=lambda *told: False, takes_group=lambda *told: False):
            for entry in entries:
                self.assertIs(is_right(NAMES, entry), False)

    def test_names_that_are_not_defined(self):
        for line in ("alike a q", "alike q a", "group q"):
            self.assertTrue(self.right(line, ("error", "refused name", ())))
            self.assertFalse(self.right(line, ("alike", "no", ("unlike", (), ()))))
        self.assertFalse(self.right("group a", ("error", "refused name", ())))
        self.assertFalse(self.right("alike a b", ("error", "text", ())))
        self.assertTrue(self.right("alike a", ("error", "text", ())))

    def test_every_value(self):
        good = ("form a", reply_to(NAMES, "form a"))
        deep = ()
        for _ in range(100000):
            deep = (deep,)
        values = list(OTHER_VALUES) + [
            None, 5, True, "", "ab", (), [], (good,), [good], list(good), good + (1,), good[:1],
            (good[0], list(good[1])), (good[0], good[1][:2]), (good[0], good[1] + ((),)), (good[1], good[0]),
            ("form a", None), ("form a", "lattice"), ("abc"), ("form a", ("a", "b", "c")), HEXAGON, unit(2),
            deep, (deep, deep), ("form a", deep), ("form a", ("lattice", "2 -1; -1 2", deep)),
            ("group a", ("group", "12", deep)), ("group a", (deep, deep, deep)), (deep, (deep, deep, deep)),
            ("alike a b", ("alike", "no", deep)), ("alike a b", ("alike", "no", ("unlike", deep, deep))),
            ("alike d a", ("alike", "no", ("unlike", deep, ()))), ("alike b c", ("alike", "yes", ("alike", deep))),
            ("alike b c", ("alike", "yes", ("alike", ("grid", deep)))), ("group a", ("group", "12", 10 ** 5000)),
            ("alike b c", ("alike", "yes", ("alike", ("grid", ((10 ** 3999, 0), (0, 1)))))),
            ("group a", ("group", "12", ("group", 10 ** 3999, (), (), ()))),
            ("group a", ("group", 10 ** 5000, ("group", 12, (), (), ()))),
        ]
        for value in OTHER_VALUES:
            values += [("group a", value), ("group a", ("group", "12", value)), (value, good[1]),
                       ("alike b c", ("alike", "yes", value)), ("alike b c", ("alike", "yes", ("alike", value))),
                       ("form a", ("lattice", value, ())), ("form a", (value, "2 -1; -1 2", ()))]
        for value in values:
            self.assertIs(is_right(NAMES, value), False)

    def test_names_stay(self):
        names = dict(NAMES)
        for line in LINES + ("alike a b", "group a"):
            is_right(names, (line, reply_to(names, line)))
        self.assertEqual(names, NAMES)


if __name__ == "__main__":
    unittest.main()
