import math
import random
import unittest
from fractions import Fraction
from itertools import product

from lattices import (
    CUBE, HEXAGON, LINE, LONG_SQUARE, ORDINARY, ROOTS_4, SQUARE, UNIT_4, pairs_of_bases,
    random_lattice,
)

from gridmetric.dual import (
    dual_basis, is_in_dual, quotient_group, quotient_vectors, rational, rational_product,
    scaled_dual,
)
from gridmetric.errors import Refused
from gridmetric.grid import Grid, diagonal, unit
from gridmetric.lattice import Lattice

# Determinants from 1 to 400; groups with one, two, three and four orders.
MODEST = tuple(lattice for lattice in ORDINARY if lattice.determinant() <= 400) + (
    Lattice(((400,),)),
    Lattice(((20, 0), (0, 20))),
    Lattice(((2, 0), (0, 200))),
    Lattice(diagonal((2, 2, 6))),
    Lattice(diagonal((4, 4, 4, 4))),
    Lattice(diagonal((1, 3, 3, 9))),
)


def inside(v, e):
    """The vector v / e as fractions."""
    return tuple(Fraction(x, e) for x in v)


def product_of(lattice, x, y):
    places = range(lattice.rank())
    return sum(x[i] * lattice.gram.rows[i][j] * y[j] for i in places for j in places)


def dual_by_box(lattice):
    """All rational vectors of the dual with coordinates from 0 to less than 1."""
    d = lattice.determinant()
    found = []
    for row in product(range(d), repeat=lattice.rank()):
        heads = [sum(x * y for x, y in zip(row, column)) for column in lattice.gram.rows]
        if all(head % d == 0 for head in heads):
            common = math.gcd(d, *row)
            found.append((tuple(x // common for x in row), d // common))
    return tuple(sorted(found, key=lambda x: (x[1], x[0])))


class DualTest(unittest.TestCase):
    def test_the_basis(self):
        for lattice in ORDINARY:
            adjugate, d = dual_basis(lattice)
            self.assertIsInstance(adjugate, Grid)
            self.assertEqual(d, lattice.determinant())
            self.assertEqual(adjugate * lattice.gram, unit(lattice.rank()).scaled(d))
            for row in adjugate:
                self.assertIs(is_in_dual(lattice, rational(row, d)), True)

    def test_the_basis_of_a_hexagon(self):
        adjugate, d = dual_basis(HEXAGON)
        self.assertEqual((adjugate.rows, d), (((2, -1), (-1, 2)), 3))
        adjugate, d = dual_basis(Lattice(((7,),)))
        self.assertEqual((adjugate.rows, d), (((1,),), 7))

    def test_the_scaled_dual(self):
        for lattice, text in (
            (LINE, "1"), (Lattice(((10000,),)), "1"), (HEXAGON, "2 -1; -1 2"),
            (LONG_SQUARE, "2 0; 0 1"), (Lattice(((6, 0), (0, 4))), "2 0; 0 3"),
            (Lattice(((2, 0), (0, 50))), "25 0; 0 1"), (UNIT_4.scaled(5), str(UNIT_4)),
            (ROOTS_4, "2 2 1 1; 2 4 2 2; 1 2 2 1; 1 2 1 2"),
        ):
            self.assertEqual(str(scaled_dual(lattice)), text)

    def test_the_scaled_dual_of_the_scaled_dual(self):
        for lattice in ORDINARY:
            if max(abs(item) for row in lattice.gram.adjugate() for item in row) <= 10000:
                content = lattice.content()
                once = Lattice([[item // content for item in row] for row in lattice.gram])
                self.assertEqual(scaled_dual(scaled_dual(lattice)), once)
                self.assertEqual(scaled_dual(lattice).content(), 1)

    def test_a_scaled_dual_that_is_too_large(self):
        for gram in (
            ((3, 0, 0), (0, 101, 0), (0, 0, 100)), ((2, 0, 0), (0, 5001, 1), (0, 1, 4999)),
        ):
            with self.assertRaises(Refused) as caught:
                scaled_dual(Lattice(gram))
            self.assertEqual(caught.exception.reason, "large")
        self.assertEqual(scaled_dual(Lattice(diagonal((1, 100, 100)))).gram, diagonal((100, 1, 1)))
        self.assertEqual(scaled_dual(Lattice(diagonal((1, 10000)))).gram, diagonal((10000, 1)))


class RationalTest(unittest.TestCase):
    def test_lowest_terms(self):
        for row, e, expected in (
            ((2, 4), 6, ((1, 2), 3)), ((0, 0), 5, ((0, 0), 1)), ((3,), 1, ((3,), 1)),
            ((-4, 6, 0), 8, ((-2, 3, 0), 4)), ((5, 7), 3, ((5, 7), 3)), ((10,), 5, ((2,), 1)),
            ((-9,), 6, ((-3,), 2)), ((0, 0, 0, 4), 12, ((0, 0, 0, 1), 3)),
            ((6, 10, 15), 30, ((6, 10, 15), 30)), ((10 ** 50,), 10 ** 60, ((1,), 10 ** 10)),
        ):
            self.assertEqual(rational(row, e), expected)

    def test_the_products(self):
        source = random.Random(51)
        for lattice in ORDINARY:
            for _ in range(20):
                x, y = [
                    rational(
                        tuple(source.randint(-9, 9) for _ in range(lattice.rank())),
                        source.randint(1, 12),
                    )
                    for _ in "xy"
                ]
                found = product_of(lattice, inside(*x), inside(*y))
                expected = (found.numerator, found.denominator)
                self.assertEqual(rational_product(lattice, x, y), expected)

    def test_products_by_hand(self):
        self.assertEqual(rational_product(HEXAGON, ((1, 1), 3), ((1, 1), 3)), (2, 3))
        self.assertEqual(rational_product(HEXAGON, ((1, 0), 1), ((0, 0), 1)), (0, 1))
        self.assertEqual(rational_product(LINE, ((-1,), 2), ((3,), 2)), (-3, 4))
        self.assertEqual(rational_product(SQUARE, ((1, 1), 2), ((1, -1), 2)), (0, 1))
        self.assertEqual(rational_product(SQUARE, ((1, 1), 2), ((1, 1), 1)), (1, 1))

    def test_what_is_in_the_dual(self):
        source = random.Random(52)
        for lattice in ORDINARY:
            d = lattice.determinant()
            for e in (1, 2, 3, 4, d):
                for _ in range(10):
                    row = tuple(source.randint(-9, 9) for _ in range(lattice.rank()))
                    x = rational(row, e)
                    units = unit(lattice.rank()).rows
                    whole = all(product_of(lattice, inside(*x), v).denominator == 1 for v in units)
                    self.assertIs(is_in_dual(lattice, x), whole)

    def test_the_dual_by_hand(self):
        self.assertIs(is_in_dual(HEXAGON, ((1, 1), 3)), True)
        self.assertIs(is_in_dual(HEXAGON, ((1, -1), 3)), False)
        self.assertIs(is_in_dual(HEXAGON, ((1, 1), 1)), True)
        self.assertIs(is_in_dual(HEXAGON, ((1, 1), 2)), False)
        self.assertIs(is_in_dual(LINE, ((1,), 2)), False)
        self.assertIs(is_in_dual(CUBE, ((0, 0, 0), 1)), True)


class QuotientGroupTest(unittest.TestCase):
    def test_known_orders(self):
        for lattice, orders in (
            (LINE, ()), (SQUARE, ()), (UNIT_4, ()), (HEXAGON, (3,)), (LONG_SQUARE, (2,)),
            (Lattice(((10000,),)), (10000,)), (ROOTS_4, (2, 2)), (UNIT_4.scaled(6), (6, 6, 6, 6)),
            (Lattice(diagonal((4, 6))), (2, 12)), (Lattice(((2, -1, 0), (-1, 2, -1), (0, -1, 2))), (4,)),
        ):
            self.assertEqual(quotient_group(lattice)[0], orders)

    def test_for_the_smith_form_that_smith_returns(self):
        for lattice in ORDINARY:
            d, u, _ = lattice.gram.smith()
            orders, generators = quotient_group(lattice)
            numbers = [d.rows[k][k] for k in range(lattice.rank())]
            self.assertEqual(orders, tuple(number for number in numbers if number > 1))
            rows = [row for number, row in zip(numbers, u.rows) if number > 1]
            self.assertEqual(generators, tuple(rational(row, k) for k, row in zip(orders, rows)))
            self.assertTrue(all(is_in_dual(lattice, x) for x in generators))

    def test_the_generators_have_the_orders(self):
        for lattice in ORDINARY:
            for order, (_, e) in zip(*quotient_group(lattice)):
                self.assertEqual(e, order)

    def test_each_element_in_exactly_one_way(self):
        for lattice in MODEST:
            orders, generators = quotient_group(lattice)
            found = set()
            for times in product(*[range(order) for order in orders]):
                parts = [inside([k * x for x in row], e) for k, (row, e) in zip(times, generators)]
                total = [sum(items) for items in zip((0,) * lattice.rank(), *parts)]
                found.add(tuple(item - math.floor(item) for item in total))
            self.assertEqual(len(found), lattice.determinant())
            self.assertEqual(found, {inside(*x) for x in quotient_vectors(lattice)})


class QuotientVectorsTest(unittest.TestCase):
    def test_all_rows_of_a_box(self):
        for lattice in MODEST:
            if lattice.determinant() ** lattice.rank() <= 200000:
                self.assertEqual(quotient_vectors(lattice), dual_by_box(lattice))

    def test_by_hand(self):
        self.assertEqual(quotient_vectors(LINE), (((0,), 1),))
        self.assertEqual(quotient_vectors(UNIT_4), (((0, 0, 0, 0), 1),))
        self.assertEqual(quotient_vectors(HEXAGON), (((0, 0), 1), ((1, 1), 3), ((2, 2), 3)))
        self.assertEqual(quotient_vectors(Lattice(((4,),))),
                         (((0,), 1), ((1,), 2), ((1,), 4), ((3,), 4)))

    def test_the_order_and_the_items(self):
        for lattice in MODEST:
            found = quotient_vectors(lattice)
            self.assertIs(type(found), tuple)
            self.assertEqual(len(found), lattice.determinant())
            keys = [(e, row) for row, e in found]
            self.assertEqual(keys, sorted(set(keys)))
            for row, e in found:
                self.assertTrue(all(0 <= item < e for item in row))
                self.assertEqual(rational(row, e), (row, e))
                self.assertIs(is_in_dual(lattice, (row, e)), True)

    def test_a_skew_basis(self):
        for lattice, skew, basis in pairs_of_bases(1):
            if lattice.determinant() <= 400:
                moved = [(basis.before(row), e) for row, e in quotient_vectors(skew)]
                lowered = sorted(((tuple(x % e for x in row), e) for row, e in moved),
                                 key=lambda x: (x[1], x[0]))
                self.assertEqual(tuple(lowered), quotient_vectors(lattice))

    def test_determinants_at_the_edge(self):
        for lattice, many in (
            (Lattice(((400,),)), 400), (Lattice(diagonal((1, 400))), 400), (LINE, 1),
            (Lattice(diagonal((2, 2, 10, 10))), 400), (Lattice(((1, 5), (5, 425))), 400),
        ):
            self.assertEqual(len(quotient_vectors(lattice)), many)
        for gram in (((401,),), ((1, 0), (0, 401)), ((21, 4), (4, 20)), unit(4).scaled(5)):
            with self.assertRaises(Refused) as caught:
                quotient_vectors(Lattice(gram))
            self.assertEqual(caught.exception.reason, "large")

    def test_sums_stay_in_the_group(self):
        source = random.Random(53)
        for rank in (1, 2, 3):
            lattice = random_lattice(source, rank, 3)
            if lattice.determinant() <= 60:
                found = {inside(*x) for x in quotient_vectors(lattice)}
                for x in found:
                    for y in found:
                        self.assertIn(tuple((a + b) % 1 for a, b in zip(x, y)), found)


if __name__ == "__main__":
    unittest.main()
