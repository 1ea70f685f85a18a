import unittest

from lattices import HEXAGON, LINE

from gridmetric.console import Console
from gridmetric.errors import Refused
from gridmetric.lattice import Lattice
from gridmetric.replies import reply_to

DONE = ("done", "", ())


class ConsoleTest(unittest.TestCase):
    def test_the_example_of_the_document(self):
        console = Console()
        self.assertEqual(console.enter("let a = 2 1; 1 2"), DONE)

    def test_a_new_console(self):
        console = Console()
        self.assertEqual((console.entries(), console.names(), len(console)), ([], {}, 0))

    def test_replies_and_entries(self):
        console = Console()
        names = {}
        expected = []
        for line in ("form a", "let a = 2 1; 1 2", "form a", "group a", "let b=1", "alike a b", "let a = 4",
                     "above a", "oops", "", "# a", "short a 201", "nearest b 1 2 / 3", "let a = 0", "form a"):
            reply = reply_to(names, line)
            self.assertEqual(console.enter(line), reply)
            expected.append((line, reply))
            if line == "let a = 2 1; 1 2":
                names["a"] = HEXAGON
            if line == "let b=1":
                names["b"] = LINE
            if line == "let a = 4":
                names["a"] = Lattice(((4,),))
            self.assertEqual(console.names(), names)
            self.assertEqual(console.entries(), expected)
            self.assertEqual(len(console), len(expected))

    def test_values_that_are_no_lines(self):
        console = Console()
        values = [None, 5, True, ("form", "a"), ["form a"], HEXAGON, "\n", "form\ta", "#" * 2001]
        for value in values:
            self.assertEqual(console.enter(value), ("error", "text", ()))
        self.assertEqual([line for line, _ in console.entries()], values)
        self.assertEqual(console.names(), {})

    def test_only_let_lines_without_an_error_define(self):
        console = Console()
        for line in ("form a", "a", "let a", "let a = ", "let a = 1 2", "let a = 10001", "let let = 1", "# let a = 1"):
            console.enter(line)
            self.assertEqual(console.names(), {})
        console.enter("let a = 1")
        for line in ("let a = 0", "let a = 1; 1", "let a a = 2", "form a", "group a"):
            console.enter(line)
            self.assertEqual(console.names(), {"a": LINE})

    def test_two_consoles_share_nothing(self):
        one, two = Console(), Console()
        one.enter("let a = 1")
        self.assertEqual((two.entries(), two.names(), len(two)), ([], {}, 0))
        self.assertEqual(two.enter("form a"), ("error", "refused name", ()))
        two.enter("let a = 2")
        self.assertEqual(one.names(), {"a": LINE})
        self.assertEqual(len(one), 1)

    def test_what_is_returned_can_be_changed(self):
        console = Console()
        console.enter("let a = 1")
        entries, names = console.entries(), console.names()
        entries.append(None), names.update(b=HEXAGON), names.pop("a")
        self.assertEqual(console.entries(), [("let a = 1", DONE)])
        self.assertEqual(console.names(), {"a": LINE})
        console.entries().clear(), console.names().clear()
        self.assertEqual(console.enter("form a"), ("lattice", "1", ()))
        self.assertEqual(entries, [("let a = 1", DONE), None])

    def test_500_lines(self):
        console = Console()
        console.enter("let a = 1")
        for k in range(499):
            console.enter(("", "form a", "oops", None)[k % 4])
        self.assertEqual(len(console), 500)
        entries = console.entries()
        for line in ("let a = 2", "let b = 1", "form a", "", "oops", None):
            with self.assertRaises(Refused) as caught:
                console.enter(line)
            self.assertEqual(caught.exception.reason, "lines")
            self.assertEqual((len(console), console.entries()), (500, entries))
            self.assertEqual(console.names(), {"a": LINE})
        self.assertEqual(len(Console()), 0)


if __name__ == "__main__":
    unittest.main()
