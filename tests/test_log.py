import unittest

from gridmetric.console import Console
from gridmetric.errors import Malformed, NoText
from gridmetric.grid import unit
from gridmetric.log import first_wrong, read_log, write_log

LINES = (
    "# the hexagon", "let a = 2 1; 1 2", "  form   a", "let b = 2 -1; -1 2", "alike a b", "let c = 1 0; 0 3",
    "alike a c", "group a", "group c", "short c 4", "short a 1", "nearest a 1 1 / 3", "parts c", "dual c",
    "below a 6", "above c", "", "    ", "form d", "let d = 5", "form d", "let a = 7", "form a", "group a",
    "alike a b", "short a 201", "nearest a 1 2 / 3", "oops", "let a = 1 2", "form a", "let a=4", "above a",
    "# a percent sign \u0025 or \t makes no line", "form a" + " " * 2000,
)
DONE = ("done", "", ())


def entered(lines):
    console = Console()
    for line in lines:
        console.enter(line)
    return console.entries()


ENTRIES = entered(LINES)
TEXT = "> let a = 2 1; 1 2\n= done \n# ()\n> form a\n= lattice 2 -1; -1 2\n# ()\n"


class WriteLogTest(unittest.TestCase):
    def test_three_lines_for_each_entry(self):
        self.assertEqual(write_log(entered(("let a = 2 1; 1 2", "form a"))), TEXT)
        self.assertEqual(write_log([]), "")
        self.assertEqual(write_log([("", DONE)]), "> \n= done \n# ()\n")
        entry = ("x", ("alike", "yes  no", (1, ("grid", ((-2,),)))))
        self.assertEqual(write_log([entry]), "> x\n= alike yes  no\n# (1 (grid ((-2))))\n")
        self.assertEqual(write_log(ENTRIES).count("\n"), 3 * len(ENTRIES))
        self.assertEqual(write_log([("> a", ("a", "= b", "c"))]), "> > a\n= a = b\n# c\n")

    def test_any_line_and_text_without_a_line_feed(self):
        for line in ("\t", "%", "\u00e4", "a" * 3000, "\r", " ", "> ", "\x0b\x0c\u2028\u0085"):
            entry = (line, ("error", line, ()))
            self.assertEqual(read_log(write_log([entry])), [entry])

    def test_what_is_no_entry(self):
        deep = ()
        for _ in range(40):
            deep = (deep,)
        for entry in (
            None, 5, "", "ab", (), [], ("a",), ("a", DONE, 1), ["a", DONE], ("a", list(DONE)), (DONE, "a"),
            ("a\n", DONE), ("\n", DONE), ("a\nb", DONE), (5, DONE), (None, DONE), (True, DONE), (("a",), DONE),
            ("a", ()), ("a", None), ("a", "abc"), ("a", ("done", "")), ("a", DONE + ((),)), ("a", ("", "", ())),
            ("a", ("Done", "", ())), ("a", ("donedonex", "", ())), ("a", ("do ne", "", ())), ("a", ("done1", "", ())),
            ("a", (5, "", ())), ("a", (None, "", ())), ("a", ("done\n", "", ())), ("a", ("done", "a\n", ())),
            ("a", ("done", "\n", ())), ("a", ("done", 5, ())), ("a", ("done", None, ())), ("a", ("done", "", None)),
            ("a", ("done", "", [])), ("a", ("done", "", True)), ("a", ("done", "", (None,))), ("a", ("done", "", "")),
            ("a", ("done", "", unit(2))), ("a", ("done", "", ("A",))), ("a", ("done", "", 10 ** 4000)),
            ("a", ("done", "", deep)), ("a", ("done", "", "abcdefghi")),
        ):
            for entries in ([entry], [("a", DONE), entry], [entry, ("a", DONE)]):
                with self.assertRaises(Malformed, msg=repr(entry)[:80]):
                    write_log(entries)


class ReadLogTest(unittest.TestCase):
    def refused(self, text, at):
        with self.assertRaises(NoText, msg=repr(text)[:80]) as caught:
            read_log(text)
        self.assertEqual(caught.exception.at, at, repr(text)[:80])

    def test_what_is_written_is_read(self):
        found = read_log(write_log(ENTRIES))
        self.assertIs(type(found), list)
        self.assertEqual(found, ENTRIES)
        self.assertEqual([type(entry) for entry in found], [tuple] * len(ENTRIES))
        for k in range(len(ENTRIES)):
            self.assertEqual(read_log(write_log(ENTRIES[k:k + 2])), ENTRIES[k:k + 2])
        self.assertEqual(read_log(""), [])

    def test_what_is_read_is_written(self):
        for text in (
            TEXT, "", "> \n= a \n# a\n", ">  a \n= a  b \n# (1 (2 ()) x)\n", "> > \n= a = \n# -7\n",
            "> a\r\n= a \r\n# ()\n", "> \x0b\n= a \u2028\n# 0\n",
        ):
            self.assertEqual(write_log(read_log(text)), text)
        self.assertEqual(read_log(">  a \n= a  b \n# 1\n"), [(" a ", ("a", " b ", 1))])

    def test_the_first_line_without_the_form(self):
        good = ["> form a", "= lattice 1", "# ()", "> x", "= error text", "# (1 2)"]
        wrong = (
            ("", ">", ">a", ">\ta", " > a", "form a", "= a", "# ()", "< a", "#> a"),
            ("", "=", "= ", "=a", "= a", "= done", "=  a", "=  ", "= A b", "= abcdefghi x", "= a1 b", "= 1 b",
             "> a b", "# a b", " = a b", "== a b", "= a\tb"),
            ("", "#", "# ", "#()", "# (", "# ( )", "# (1  2)", "#  ()", "# () ", "# 01", "# -0", "# A", "# 1 2",
             "> ()", "= ()", " # ()", "## ()", "# " + "1" * 4001, "# " + "(" * 41 + ")" * 41, "# abcdefghi"),
        )
        for k in range(6):
            for line in wrong[k % 3]:
                lines = good[:k] + [line] + good[k + 1:]
                self.refused("\n".join(lines) + "\n", k)
                # What follows does not matter, nor that the last line feed is missing.
                self.refused("\n".join(lines[:k + 1]) + "\n", k)
                self.refused("\n".join(lines[:k + 1] + ["?", "?"]), k)
        self.refused("\n", 0)
        self.refused(TEXT + "\n", 6)

    def test_a_text_that_ends_within_an_entry(self):
        lines = TEXT.splitlines(True)
        for many in range(len(lines) + 1):
            text = "".join(lines[:many])
            if many % 3 == 0:
                self.assertEqual(len(read_log(text)), many // 3)
            else:
                self.refused(text, many)

    def test_signs_behind_the_last_line_feed(self):
        lines = TEXT.splitlines(True)
        for many in range(len(lines) + 1):
            for rest in (" ", ">", "> a", "= a b", "# ()", "()", "\r", "?"):
                self.refused("".join(lines[:many]) + rest, many)
        self.refused(TEXT[:-1], 5)
        self.refused("?", 0)

    def test_what_is_no_string(self):
        for value in (None, 5, True, (), [], ENTRIES, b"", [TEXT], (TEXT,), unit(2), Console()):
            self.refused(value, 0)


class FirstWrongTest(unittest.TestCase):
    def test_right_entries(self):
        self.assertEqual(first_wrong(ENTRIES), -1)
        self.assertEqual(first_wrong([]), -1)
        self.assertEqual(first_wrong(read_log(write_log(ENTRIES))), -1)
        self.assertEqual(first_wrong([(5, ("error", "text", ())), (None, ("error", "text", ()))]), -1)

    def test_one_changed_entry(self):
        for k, (line, (kind, text, data)) in enumerate(ENTRIES):
            for entry in (
                (line, (kind, text + "1", data)), (line, ("errors", text, data)), (line, (kind, text, (data,))),
                [line, (kind, text, data)],
            ):
                changed = ENTRIES[:k] + [entry] + ENTRIES[k + 1:]
                self.assertEqual(first_wrong(changed), k)

    def test_the_let_lines_before_it_matter(self):
        one, two = ("let a = 2 1; 1 2", DONE), ("let a = 7", DONE)
        hexagon, seven = ("form a", ("lattice", "2 -1; -1 2", ())), ("form a", ("lattice", "7", ()))
        unknown = ("form a", ("error", "refused name", ()))
        for entries, found in (
            ([one, hexagon, two, seven], -1), ([one, two, seven], -1), ([one, two, hexagon], 2),
            ([one, seven], 1), ([hexagon, one], 0), ([unknown, one, hexagon], -1), ([one, unknown], 1),
            ([one, hexagon, two, hexagon], 3), ([unknown, unknown], -1), ([hexagon], 0),
        ):
            self.assertEqual(first_wrong(entries), found)

    def test_a_let_line_with_an_error_changes_nothing(self):
        for line in ("let a = 0", "let a = 1 2", "let form = 1", "let a b = 1"):
            entries = entered(("let a = 3", line, "form a"))
            self.assertEqual(entries[1][1], ("error", "text", ()))
            self.assertEqual(entries[2][1], ("lattice", "3", ()))
            self.assertEqual(first_wrong(entries), -1)

    def test_items_of_any_kind(self):
        good = ENTRIES[:3]
        for value in (None, 5, True, "", (), [], (1, 2), (1, (2, 3, 4)), unit(2), Console(), ([], [])):
            self.assertEqual(first_wrong(good + [value]), 3)
            self.assertEqual(first_wrong([value] + good), 0)

    def test_the_list_stays(self):
        entries = list(ENTRIES)
        first_wrong(entries), write_log(entries)
        self.assertEqual(entries, ENTRIES)


if __name__ == "__main__":
    unittest.main()
