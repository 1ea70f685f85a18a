import unittest
from itertools import product

from lattices import (
    CUBE, HEXAGON, LINE, LONG_SQUARE, ROOTS_4, SKEW_SQUARE, SMALL, SQUARE, UNIT_4,
    pairs_of_bases, plain_norm, vectors_by_box,
)

from gridmetric.grid import Grid, unit
from gridmetric.lattice import Lattice
from gridmetric.least import form, least_bases
from gridmetric.maps import (
    alike, all_maps, find_map, generators, order, self_maps, word_of,
)

# Equal determinants, and more and more that is equal beside them.
UNLIKE = (
    (SQUARE, LONG_SQUARE),
    (Lattice(((1, 0), (0, 12))), Lattice(((3, 0), (0, 4)))),
    (Lattice(((2, 1), (1, 6))), Lattice(((3, 1), (1, 4)))),
    (Lattice(((1, 0, 0), (0, 2, 0), (0, 0, 6))), Lattice(((1, 0, 0), (0, 3, 0), (0, 0, 4)))),
    (
        Lattice(((1, 0, 0, 0), (0, 1, 0, 0), (0, 0, 1, 0), (0, 0, 0, 4))),
        Lattice(((1, 0, 0, 0), (0, 1, 0, 0), (0, 0, 2, 0), (0, 0, 0, 2))),
    ),
)


def is_map(a, b, m):
    return abs(m.determinant()) == 1 and m * b.gram * m.transposed() == a.gram


def maps_by_box(a, b):
    """All maps among the matrices whose rows are vectors of a box."""
    norms = [a.gram.rows[k][k] for k in range(a.rank())]
    vectors = vectors_by_box(b, max(norms))
    rows = [[v for v in vectors if plain_norm(b, v) == norm] for norm in norms]
    found = [Grid(choice) for choice in product(*rows)]
    return sorted((m for m in found if is_map(a, b, m)), key=lambda m: m.rows)


def closure(maps, n):
    """The rows of all products of the maps."""
    found = {unit(n).rows}
    layer = [unit(n)]
    while layer:
        longer = [one * m for one in layer for m in maps]
        layer = []
        for one in longer:
            if one.rows not in found:
                found.add(one.rows)
                layer.append(one)
    return found


class MapsTest(unittest.TestCase):
    def test_the_examples_of_the_document(self):
        self.assertEqual([order(SQUARE), order(HEXAGON), order(LONG_SQUARE)], [8, 12, 4])
        self.assertIs(alike(SKEW_SQUARE, SQUARE), True)

    def test_all_matrices_with_rows_from_a_box(self):
        for a in SMALL:
            self.assertEqual(list(self_maps(a)), maps_by_box(a, a))
            self.assertEqual(list(all_maps(form(a), a)), maps_by_box(form(a), a))
            self.assertEqual(list(all_maps(a, form(a))), maps_by_box(a, form(a)))

    def test_all_matrices_for_the_unit_matrix_of_rank_4(self):
        self.assertEqual(list(self_maps(UNIT_4)), maps_by_box(UNIT_4, UNIT_4))

    def test_another_basis_with_large_items(self):
        for a, b, basis in pairs_of_bases(1):
            maps = all_maps(a, b)
            self.assertEqual(len({m.rows for m in maps}), order(a))
            self.assertEqual([m.rows for m in maps], sorted(m.rows for m in maps))
            self.assertTrue(all(is_map(a, b, m) for m in maps))
            # The rows of the basis are the images of the basis vectors of b in a.
            self.assertIn(basis, all_maps(b, a))

    def test_a_large_basis_of_rank_2(self):
        a = Lattice(((9802, 99), (99, 1)))
        self.assertEqual(len(all_maps(a, SQUARE)), 8)
        self.assertEqual(find_map(a, SQUARE), all_maps(a, SQUARE)[0])
        self.assertTrue(is_map(a, SQUARE, find_map(a, SQUARE)))

    def test_a_tuple_of_grids(self):
        for maps in (self_maps(HEXAGON), all_maps(SQUARE, SKEW_SQUARE), all_maps(*UNLIKE[0])):
            self.assertIs(type(maps), tuple)
            self.assertTrue(all(isinstance(m, Grid) for m in maps))

    def test_find_map_is_the_first_one(self):
        for a in SMALL:
            found = find_map(a, form(a))
            self.assertEqual(found, all_maps(a, form(a))[0])
            self.assertEqual(find_map(a, a), self_maps(a)[0])

    def test_unlike_lattices_have_no_maps(self):
        for one, two in UNLIKE:
            for a, b in ((one, two), (two, one)):
                self.assertIs(alike(a, b), False)
                self.assertIsNone(find_map(a, b))
                self.assertEqual(all_maps(a, b), ())

    def test_unlike_ranks_have_no_maps(self):
        for a, b in ((LINE, SQUARE), (SQUARE, CUBE), (UNIT_4, CUBE), (LINE, UNIT_4)):
            self.assertIs(alike(a, b), False)
            self.assertIsNone(find_map(a, b))
            self.assertEqual(all_maps(a, b), ())
            self.assertEqual(all_maps(b, a), ())

    def test_alike_exactly_if_the_forms_are_equal(self):
        lattices = (LINE, SQUARE, HEXAGON, LONG_SQUARE, SKEW_SQUARE, CUBE, *UNLIKE[1], *UNLIKE[2])
        forms = [form(a) for a in lattices]
        for a, one in zip(lattices, forms):
            for b, two in zip(lattices, forms):
                self.assertIs(alike(a, b), one == two)

    def test_a_map_takes_least_bases_to_least_bases(self):
        for a, b in ((SKEW_SQUARE, SQUARE), (HEXAGON, form(HEXAGON)), (CUBE, CUBE)):
            first = least_bases(a)[0]
            found = [first * m for m in all_maps(a, b)]
            self.assertEqual(sorted(m.rows for m in found), [m.rows for m in least_bases(b)])


class SelfMapsTest(unittest.TestCase):
    def test_known_orders(self):
        self.assertEqual([order(LINE), order(CUBE), order(UNIT_4), order(ROOTS_4)],
                         [2, 48, 384, 1152])
        self.assertEqual([m.rows for m in self_maps(LINE)], [((-1,),), ((1,),)])

    def test_the_order_is_the_number_of_the_self_maps(self):
        for a in SMALL + (UNIT_4,):
            self.assertEqual(order(a), len(self_maps(a)))
            self.assertEqual(self_maps(a), all_maps(a, a))

    def test_they_are_closed_under_products_and_inverses(self):
        for a in (SQUARE, HEXAGON, SKEW_SQUARE, LONG_SQUARE):
            maps = self_maps(a)
            for one in maps:
                self.assertIn(one.inverse(), maps)
                for two in maps:
                    self.assertIn(one * two, maps)


class GeneratorsTest(unittest.TestCase):
    def test_a_line(self):
        self.assertEqual(generators(LINE), (Grid(((-1,),)),))

    def test_the_words_of_the_document(self):
        for a in SMALL:
            taken = []
            for m in self_maps(a):
                if m.rows not in closure(taken, a.rank()):
                    taken.append(m)
            self.assertEqual(generators(a), tuple(taken))

    def test_all_self_maps_are_products_of_them(self):
        found = closure(generators(UNIT_4), 4)
        self.assertEqual(sorted(found), [m.rows for m in self_maps(UNIT_4)])


class WordOfTest(unittest.TestCase):
    def test_all_words_up_to_a_length(self):
        for a in (LINE, SQUARE, HEXAGON, SKEW_SQUARE, LONG_SQUARE, CUBE):
            for maps in (generators(a), tuple(reversed(generators(a))), self_maps(a)[:2]):
                words = self.first_words(a, maps, 6)
                for m in self_maps(a):
                    found = word_of(a, maps, m)
                    if m.rows in words:
                        self.assertEqual(found, words[m.rows])
                    elif found is not None:
                        self.assertGreater(len(found), 6)

    def first_words(self, a, maps, most):
        found = {}
        layer = [((), unit(a.rank()))]
        for _ in range(most + 1):
            for word, m in layer:
                found.setdefault(m.rows, word)
            layer = [(word + (k,), m * g) for word, m in layer for k, g in enumerate(maps)]
        return found

    def test_the_product_from_the_left_is_the_map(self):
        for a in (HEXAGON, CUBE, SKEW_SQUARE):
            maps = generators(a)
            for m in self_maps(a):
                found = unit(a.rank())
                for k in word_of(a, maps, m):
                    found = found * maps[k]
                self.assertEqual(found, m)

    def test_the_unit_matrix_has_the_empty_word(self):
        for maps in ((), generators(SQUARE), self_maps(SQUARE)):
            self.assertEqual(word_of(SQUARE, maps, unit(2)), ())

    def test_none_if_it_is_no_product(self):
        turn = Grid(((0, 1), (-1, 0)))
        swap = Grid(((0, 1), (1, 0)))
        self.assertIsNone(word_of(SQUARE, (), -unit(2)))
        self.assertIsNone(word_of(SQUARE, (turn,), swap))
        self.assertIsNone(word_of(SQUARE, (-unit(2), unit(2)), swap))
        self.assertEqual(word_of(SQUARE, (turn,), -turn), (0, 0, 0))
        self.assertEqual(word_of(SQUARE, (turn, swap), swap), (1,))

    def test_of_two_equal_maps_the_first_one_is_named(self):
        turn = Grid(((0, 1), (-1, 0)))
        self.assertEqual(word_of(SQUARE, (turn, turn), -unit(2)), (0, 0))
        self.assertEqual(word_of(SQUARE, (unit(2), turn, turn), turn), (1,))


if __name__ == "__main__":
    unittest.main()
