import unittest

from lattices import (
    CUBE, HEXAGON, LONG_SQUARE, ORDINARY, ROOTS_4, SKEW_SQUARE, SMALL, SQUARE, UNIT_4, levels_by_box,
    pairs_of_bases, plain_product,
)

from gridmetric.grid import Grid
from gridmetric.lattice import Lattice
from gridmetric.least import form, least_bases, levels, next_level


def sizes(lattice):
    return [(mark, len(tuples)) for mark, tuples in levels(lattice)]


class LevelsTest(unittest.TestCase):
    def test_the_examples_of_the_document(self):
        found = levels(SQUARE)
        self.assertEqual(found[0], ((1,), (((-1, 0),), ((0, -1),), ((0, 1),), ((1, 0),))))
        self.assertEqual(sizes(SQUARE), [((1,), 4), ((1, 0), 8)])
        self.assertEqual(sizes(HEXAGON), [((2,), 6), ((2, -1), 12)])
        self.assertEqual(form(HEXAGON).gram.rows, ((2, -1), (-1, 2)))
        self.assertEqual(sizes(LONG_SQUARE), [((1,), 2), ((2, 0), 4)])
        self.assertEqual(form(SKEW_SQUARE), SQUARE)
        self.assertEqual(levels(SKEW_SQUARE)[0][0], (1,))
        self.assertEqual(levels(Lattice(((1,),))), (((1,), (((-1,),), ((1,),))),))

    def test_known_orders(self):
        self.assertEqual([count for _, count in sizes(CUBE)], [6, 24, 48])
        self.assertEqual([count for _, count in sizes(UNIT_4)], [8, 48, 192, 384])
        self.assertEqual(sizes(ROOTS_4)[-1], ((2, -1, 0, 0), 1152))

    def test_the_search_of_a_box_by_the_words_of_the_document(self):
        for lattice in ORDINARY:
            self.assertEqual(levels(lattice), levels_by_box(lattice))

    def test_skew_bases_with_large_items(self):
        for lattice, skew, basis in pairs_of_bases(3):
            one, two = levels(skew), levels(lattice)
            self.assertEqual([mark for mark, _ in one], [mark for mark, _ in two])
            for (_, tuples), (_, expected) in zip(one, two):
                self.assertEqual(list(tuples), sorted(tuples))
                found = sorted(tuple(basis.before(v) for v in vectors) for vectors in tuples)
                self.assertEqual(found, list(expected))

    def test_lattices_with_one_or_two_long_vectors(self):
        for rows, last in (
            ((1, 1, 1, 10000), ((10000, 0, 0, 0), 96)),
            ((10000, 1, 10000, 1), ((10000, 0, 0, 0), 64)),
            ((1, 100, 1000, 10000), ((10000, 0, 0, 0), 16)),
        ):
            lattice = Lattice([[x if i == j else 0 for j in range(4)] for i, x in enumerate(rows)])
            self.assertEqual(sizes(lattice)[-1], last)

    def test_large_items(self):
        lattice = Lattice(((10000, -9999), (-9999, 10000)))
        self.assertEqual(sizes(lattice), [((2,), 2), ((10000, -1), 4)])
        self.assertEqual(levels(lattice)[0][1], (((-1, -1),), ((1, 1),)))
        self.assertEqual(sizes(Lattice(((10000,),))), [((10000,), 2)])

    def test_a_bound_that_is_too_small_is_doubled(self):
        expected = next_level(LONG_SQUARE.gram, [((1, 0),), ((-1, 0),)], 2)
        self.assertEqual(expected[0], (2, 0))
        self.assertEqual(next_level(LONG_SQUARE.gram, [((1, 0),), ((-1, 0),)], 1), expected)
        ten = Lattice(((1, 0), (0, 10))).gram
        self.assertEqual(next_level(ten, [((1, 0),)], 1)[0], (10, 0))


class LeastBasesTest(unittest.TestCase):
    def test_they_are_the_tuples_of_the_last_level(self):
        for lattice in SMALL:
            found = least_bases(lattice)
            self.assertIs(type(found), tuple)
            self.assertEqual([basis.rows for basis in found], list(levels(lattice)[-1][1]))
            for basis in found:
                self.assertIsInstance(basis, Grid)
                self.assertTrue(basis.is_unimodular())

    def test_all_have_the_least_gram_matrix(self):
        for lattice in SMALL:
            least = form(lattice).gram.rows
            for basis in least_bases(lattice):
                products = tuple(
                    tuple(plain_product(lattice, v, w) for w in basis) for v in basis
                )
                self.assertEqual(products, least)

    def test_the_key_has_the_items_on_and_below_the_diagonal(self):
        for lattice in SMALL:
            least = form(lattice).gram.rows
            for k, (mark, _) in enumerate(levels(lattice)):
                self.assertEqual(mark, (least[k][k],) + least[k][:k])


class FormTest(unittest.TestCase):
    def test_it_is_a_lattice_and_the_form_of_a_form_is_itself(self):
        for lattice in SMALL:
            found = form(lattice)
            self.assertIsInstance(found, Lattice)
            self.assertEqual(form(found), found)
            self.assertEqual(found.determinant(), lattice.determinant())

    def test_it_is_the_same_for_another_basis(self):
        for lattice, skew, _ in pairs_of_bases(6):
            self.assertEqual(form(skew), form(lattice))

    def test_unlike_lattices_have_unlike_forms(self):
        # Equal determinants, and for the last two also equal least norms.
        one, two = Lattice(((1, 0), (0, 12))), Lattice(((3, 0), (0, 4)))
        self.assertNotEqual(form(one), form(two))
        one, two = Lattice(((2, 1), (1, 6))), Lattice(((3, 1), (1, 4)))
        self.assertEqual(one.determinant(), two.determinant())
        self.assertNotEqual(form(one), form(two))


if __name__ == "__main__":
    unittest.main()
