"""The names and arguments of the interface, and the points that hold for everything."""

import importlib
import inspect
import unittest

import gridmetric

INTERFACE = {
    "errors": {"Fault": None, "Malformed": None, "Refused": ["reason"], "NoText": ["at"]},
    "whole": {
        "is_integer": ["value"], "root_floor": ["n"], "upper": ["a", "b"], "lower": ["a", "b"],
        "cofactors": ["a", "b"], "content": ["numbers"], "dot": ["a", "b"], "divisors": ["n"],
    },
    "grid": {
        "Grid": ["rows", "width"], "unit": ["n"], "diagonal": ["numbers"], "blocks": ["a", "b"],
    },
}

METHODS = {
    ("grid", "Grid"): {
        "__add__": ["other"], "__sub__": ["other"], "__mul__": ["other"], "__neg__": [],
        "__eq__": ["other"], "__len__": [], "__iter__": [],
        "scaled": ["k"], "transposed": [], "times": ["row"], "before": ["row"], "stacked": ["b"],
        "is_square": [], "determinant": [], "adjugate": [], "is_unimodular": [], "inverse": [],
        "hermite": [], "rank": [], "smith": [], "factors": [], "is_primitive": [],
        "coefficients": ["row"],
    },
}


def module(name):
    return importlib.import_module(f"gridmetric.{name}")


class InterfaceTest(unittest.TestCase):
    def test_each_name_is_defined_in_its_file(self):
        for name, found in INTERFACE.items():
            for word, arguments in found.items():
                value = getattr(module(name), word)
                self.assertEqual(value.__module__, f"gridmetric.{name}")
                if arguments is not None:
                    self.assertEqual(list(inspect.signature(value).parameters), arguments)

    def test_each_method_is_defined_in_its_class(self):
        for (name, word), methods in METHODS.items():
            own = vars(getattr(module(name), word))
            for method, arguments in methods.items():
                expected = ["self"] + arguments
                self.assertEqual(list(inspect.signature(own[method]).parameters), expected)

    def test_the_package_itself_defines_nothing(self):
        with open(gridmetric.__file__, encoding="utf-8") as file:
            self.assertEqual(file.read(), "")

    def test_the_width_of_a_grid_may_be_left_out(self):
        width = inspect.signature(module("grid").Grid).parameters["width"]
        self.assertIsNone(width.default)


class ArgumentsStayTest(unittest.TestCase):
    def test_lists_that_are_passed_do_not_change(self):
        grid, whole = module("grid"), module("whole")
        rows = [[2, 4], [3, 5]]
        row = [1, 2]
        made = grid.Grid(rows)
        made.hermite(), made.smith(), made.determinant(), made.adjugate()
        made.times(row), made.before(row), made.coefficients(row)
        grid.diagonal(row), whole.content(row), whole.dot(row, row)
        self.assertEqual(rows, [[2, 4], [3, 5]])
        self.assertEqual(row, [1, 2])
        self.assertEqual((made.rows, made.width), (((2, 4), (3, 5)), 2))


if __name__ == "__main__":
    unittest.main()
