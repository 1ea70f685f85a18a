"""The names and arguments of the interface, and the points that hold for everything."""

import importlib
import inspect
import unittest

import gridmetric

INTERFACE = {
    "errors": {"Fault": None, "Malformed": None, "Refused": ["reason"], "NoText": ["at"]},
    "whole": {
        "is_integer": ["value"], "root_floor": ["n"], "upper": ["a", "b"], "lower": ["a", "b"],
        "cofactors": ["a", "b"], "content": ["numbers"], "dot": ["a", "b"], "divisors": ["n"],
    },
    "grid": {
        "Grid": ["rows", "width"], "unit": ["n"], "diagonal": ["numbers"], "blocks": ["a", "b"],
    },
    "lattice": {"Lattice": ["gram"], "read_lattice": ["text"]},
    "short": {
        "tail_matrix": ["gram", "k"], "near_vectors": ["lattice", "a", "d", "most"],
        "short_vectors": ["lattice", "most"], "least_norm": ["lattice"],
        "least_vectors": ["lattice"], "counts": ["lattice", "most"],
    },
    "nearest": {"nearest": ["lattice", "a", "d"], "distance": ["lattice", "a", "d", "v"]},
    "least": {"levels": ["lattice"], "least_bases": ["lattice"], "form": ["lattice"]},
    "maps": {
        "alike": ["a", "b"], "find_map": ["a", "b"], "all_maps": ["a", "b"], "self_maps": ["a"],
        "order": ["a"], "generators": ["a"], "word_of": ["a", "maps", "m"],
    },
    "papers": {"levels_paper": ["lattice"], "pair_paper": ["a", "b"], "group_paper": ["a"]},
    "checker": {
        "box": ["lattice", "norm"], "takes_levels": ["lattice", "paper"],
        "takes_pair": ["a", "b", "paper"], "takes_group": ["a", "paper"],
    },
    "parts": {
        "decomposition": ["lattice", "v"], "is_indecomposable": ["lattice", "v"],
        "indecomposables": ["lattice", "most"], "summands": ["lattice", "v"],
        "finest_parts": ["lattice"], "is_whole": ["lattice"], "part_lattices": ["lattice"],
        "is_parting": ["lattice", "grids"],
    },
    "dual": {
        "dual_basis": ["lattice"], "scaled_dual": ["lattice"], "rational": ["row", "e"],
        "is_in_dual": ["lattice", "vector"], "rational_product": ["lattice", "x", "y"],
        "quotient_group": ["lattice"], "quotient_vectors": ["lattice"],
    },
    "nested": {
        "sublattices": ["n", "index"], "above": ["lattice"], "raised": ["lattice", "grid"],
    },
    "packing": {
        "plain": ["value"], "restored": ["value"], "write_data": ["value"], "read_data": ["text"],
    },
    "sheet": {"read_line": ["line"], "is_name": ["value"]},
    "replies": {"reply_to": ["names", "line"], "is_right": ["names", "entry"]},
    "log": {"write_log": ["entries"], "read_log": ["text"], "first_wrong": ["entries"]},
    "console": {"Console": []},
}

METHODS = {
    ("grid", "Grid"): {
        "__add__": ["other"], "__sub__": ["other"], "__mul__": ["other"], "__neg__": [],
        "__eq__": ["other"], "__len__": [], "__iter__": [],
        "scaled": ["k"], "transposed": [], "times": ["row"], "before": ["row"], "stacked": ["b"],
        "is_square": [], "determinant": [], "adjugate": [], "is_unimodular": [], "inverse": [],
        "hermite": [], "rank": [], "smith": [], "factors": [], "is_primitive": [],
        "coefficients": ["row"],
    },
    ("lattice", "Lattice"): {
        "__add__": ["other"], "__eq__": ["other"], "__contains__": ["x"], "__str__": [],
        "rank": [], "determinant": [], "content": [], "is_even": [],
        "product": ["v", "w"], "norm": ["v"], "changed": ["u"], "spanned": ["u"],
        "scaled": ["k"], "box_vectors": ["size"],
    },
    ("console", "Console"): {
        "__init__": [], "__len__": [], "enter": ["line"], "entries": [], "names": [],
    },
}


def module(name):
    return importlib.import_module(f"gridmetric.{name}")


class InterfaceTest(unittest.TestCase):
    def test_each_name_is_defined_in_its_file(self):
        for name, found in INTERFACE.items():
            for word, arguments in found.items():
                value = getattr(module(name), word)
                self.assertEqual(value.__module__, f"gridmetric.{name}")
                if arguments is not None:
                    self.assertEqual(list(inspect.signature(value).parameters), arguments)

    def test_each_method_is_defined_in_its_class(self):
        for (name, word), methods in METHODS.items():
            own = vars(getattr(module(name), word))
            for method, arguments in methods.items():
                expected = ["self"] + arguments
                self.assertEqual(list(inspect.signature(own[method]).parameters), expected)

    def test_the_package_itself_defines_nothing(self):
        with open(gridmetric.__file__, encoding="utf-8") as file:
            self.assertEqual(file.read(), "")

    def test_the_width_of_a_grid_may_be_left_out(self):
        width = inspect.signature(module("grid").Grid).parameters["width"]
        self.assertIsNone(width.default)


class ArgumentsStayTest(unittest.TestCase):
    def test_lists_that_are_passed_do_not_change(self):
        grid, whole = module("grid"), module("whole")
        rows = [[2, 4], [3, 5]]
        row = [1, 2]
        made = grid.Grid(rows)
        made.hermite(), made.smith(), made.determinant(), made.adjugate()
        made.times(row), made.before(row), made.coefficients(row)
        grid.diagonal(row), whole.content(row), whole.dot(row, row)
        self.assertEqual(rows, [[2, 4], [3, 5]])
        self.assertEqual(row, [1, 2])
        self.assertEqual((made.rows, made.width), (((2, 4), (3, 5)), 2))

    def test_a_lattice_does_not_change(self):
        gram = [[5, 3], [3, 2]]
        lattice = module("lattice").Lattice(gram)
        short, nearest, least = module("short"), module("nearest"), module("least")
        short.near_vectors(lattice, (1, 2), 3, 9), short.short_vectors(lattice, 5)
        short.least_vectors(lattice), short.counts(lattice, 5)
        nearest.nearest(lattice, (1, 2), 3), nearest.distance(lattice, (1, 2), 3, (0, 0))
        least.levels(lattice), least.least_bases(lattice), least.form(lattice)
        self.assertEqual(gram, [[5, 3], [3, 2]])
        self.assertEqual(lattice.gram.rows, ((5, 3), (3, 2)))

    def test_maps_and_papers_do_not_change(self):
        maps, papers, checker = module("maps"), module("papers"), module("checker")
        a = module("lattice").Lattice(((5, 3), (3, 2)))
        taken, words = maps.generators(a), [[0], [1]]
        rows = [m.rows for m in taken]
        maps.word_of(a, taken, maps.self_maps(a)[3])
        paper = papers.group_paper(a)
        self.assertTrue(checker.takes_group(a, paper))
        self.assertFalse(checker.takes_group(a, ("group", 2, taken, words, paper[4])))
        self.assertEqual([m.rows for m in taken], rows)
        self.assertEqual(words, [[0], [1]])
        self.assertEqual(paper, papers.group_paper(a))
        self.assertEqual(a.gram.rows, ((5, 3), (3, 2)))

    def test_what_lies_around_a_lattice_does_not_change_it(self):
        parts, dual, nested = module("parts"), module("dual"), module("nested")
        gram, row = [[4, 2], [2, 9]], [2, 4]
        a = module("lattice").Lattice(gram)
        grids = parts.finest_parts(a)
        parts.decomposition(a, (3, 4)), parts.summands(a, (3, 4)), parts.indecomposables(a, 20)
        parts.is_parting(a, grids), parts.part_lattices(a)
        dual.scaled_dual(a), dual.quotient_vectors(a), dual.quotient_group(a)
        nested.raised(a, nested.above(a)[0][1])
        self.assertEqual(dual.rational(row, 6), ((1, 2), 3))
        self.assertEqual((gram, row), ([[4, 2], [2, 9]], [2, 4]))
        self.assertEqual((a.gram.rows, grids), (((4, 2), (2, 9)), parts.finest_parts(a)))

    def test_equal_arguments_give_equal_results(self):
        parts, dual, nested = module("parts"), module("dual"), module("nested")
        short, least, maps, papers = [module(name) for name in ("short", "least", "maps", "papers")]
        one, two = [module("lattice").Lattice(((6, 2, -3), (2, 4, 1), (-3, 1, 5))) for _ in "ab"]
        for act in (
            short.least_vectors, least.levels, least.least_bases, least.form, maps.self_maps,
            maps.generators, papers.levels_paper, papers.group_paper, parts.finest_parts,
            parts.part_lattices, dual.dual_basis, dual.scaled_dual, dual.quotient_group,
            dual.quotient_vectors, nested.above,
        ):
            self.assertEqual(act(one), act(two))
            self.assertEqual(act(one), act(one))


if __name__ == "__main__":
    unittest.main()
