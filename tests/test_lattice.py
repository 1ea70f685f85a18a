import random
import unittest
from itertools import product

from lattices import HEXAGON, ORDINARY, SQUARE, UNIT_4, plain_norm, plain_product
from samples import random_unimodular

from gridmetric.errors import Malformed, NoText, Refused
from gridmetric.grid import Grid, diagonal, unit
from gridmetric.lattice import Lattice, read_lattice

MANY_ROWS = (
    [1, 2, 3, 4, 5],
    (None,) * 5,
    [[1]] * 7,
    ("a", "b", "c", "d", "e"),
    unit(5),
    unit(6).rows,
    diagonal((1, 1, 1, 1, 20000)),
    diagonal((1, 1, 1, 1, -1)),
    Grid([[1, 2]] * 5),
    Grid([()] * 5),
    [[True, 0, 0, 0, 0]] * 5,
)

BAD_FORMS = (
    (),
    [],
    ((),),
    Grid(()),
    Grid((), 2),
    Grid(((),)),
    ((1, 0),),
    ((1,), (0,)),
    ((1, 0), (0, 1), (0, 0)),
    Grid(((1, 0, 0), (0, 1, 0))),
    ((1, 0), (0,)),
    ((2, 1), (-1, 2)),
    ((2, 1, 0), (1, 2, 1), (0, 0, 2)),
    ((True,),),
    ((1, False), (False, 1)),
    ((1, 0), (0, True)),
    ((None,),),
    (("1",),),
    ((1.0,),),
    (((1,),),),
    (1,),
    (1, 2),
    ("1",),
    None,
    1,
    True,
    "1",
    SQUARE,
    {(1,): 1},
    # Also with items that are too large: the form comes first.
    ((20000, 1), (0, 20000)),
    ((20000, True), (True, 1)),
    ((20000, 0),),
)

TOO_LARGE = (
    ((10001,),),
    ((-10001,),),
    ((1, 0), (0, 10001)),
    ((10000, 10001), (10001, 10000)),
    ((10000, -10001), (-10001, 10000)),
    ((10 ** 30, 0), (0, 10 ** 30)),
    ((0, 0), (0, 10 ** 9)),
    diagonal((1, 1, 1, 10001)),
)

NOT_POSITIVE = (
    ((0,),),
    ((-1,),),
    ((-10000,),),
    ((1, 2), (2, 4)),
    ((1, 2), (2, 1)),
    ((0, 0), (0, 1)),
    ((0, 0), (0, 0)),
    ((1, 0), (0, 0)),
    ((-1, 0), (0, -1)),
    ((-2, 1), (1, -2)),
    ((1, 0, 0), (0, -1, 0), (0, 0, -1)),
    ((-1, 0, 0), (0, -1, 0), (0, 0, 1)),
    ((2, -1, -1), (-1, 2, -1), (-1, -1, 2)),
    ((10000, 10000), (10000, 10000)),
    diagonal((1, 1, 1, 0)),
    diagonal((1, 1, 1, -1)),
    diagonal((-1, -1, -1, -1)),
    diagonal((1, 1, -1, -1)),
)

NO_VECTORS = (
    (), (1,), (1, 2, 3), [1, 2], (True, 0), (0, False), (1, None), ("1", "2"), "12", None, 0,
    True, ((1, 2),), Grid(((1, 2),)), SQUARE, (1.0, 2), {1: 2, 3: 4},
)


class CreationTest(unittest.TestCase):
    def test_the_field_is_a_grid_for_each_kind_of_argument(self):
        rows = ((2, -1), (-1, 2))
        for gram in (rows, [[2, -1], [-1, 2]], [(2, -1), (-1, 2)], ([2, -1], [-1, 2]), Grid(rows)):
            lattice = Lattice(gram)
            self.assertIsInstance(lattice.gram, Grid)
            self.assertEqual(lattice.gram, Grid(rows))

    def test_ranks_1_to_4(self):
        for n in (1, 2, 3, 4):
            self.assertEqual(Lattice(unit(n)).gram, unit(n))

    def test_items_up_to_10000(self):
        self.assertEqual(Lattice(((10000,),)).gram.rows, ((10000,),))
        for item in (9999, -9999):
            rows = ((10000, item), (item, 10000))
            self.assertEqual(Lattice(rows).gram.rows, rows)
        # These are not too large: what is wrong is the determinant, which is 0.
        for item in (10000, -10000):
            with self.assertRaises(Malformed):
                Lattice(((10000, item), (item, 10000)))

    def test_more_than_4_rows_are_refused_before_anything_else(self):
        for gram in MANY_ROWS:
            with self.assertRaises(Refused) as caught:
                Lattice(gram)
            self.assertEqual(caught.exception.reason, "rank")

    def test_malformed_forms(self):
        for gram in BAD_FORMS:
            with self.assertRaises(Malformed):
                Lattice(gram)

    def test_large_items_are_refused_also_if_the_matrix_is_not_positive(self):
        for gram in TOO_LARGE:
            with self.assertRaises(Refused) as caught:
                Lattice(gram)
            self.assertEqual(caught.exception.reason, "large")

    def test_matrices_that_are_not_positive_definite(self):
        for gram in NOT_POSITIVE:
            with self.assertRaises(Malformed):
                Lattice(gram)

    def test_positive_definite_is_that_all_norms_are_above_0(self):
        # If one of these matrices is not positive definite, (1, 0), (0, 1) or (-b, a) has
        # a norm of at most 0.
        span = range(-3, 4)
        vectors = [v for v in product(range(-4, 5), repeat=2) if any(v)]
        for a, b, c in product(span, span, span):
            good = all(a * x * x + 2 * b * x * y + c * y * y > 0 for x, y in vectors)
            if good:
                self.assertEqual(Lattice(((a, b), (b, c))).determinant(), a * c - b * b)
            else:
                with self.assertRaises(Malformed):
                    Lattice(((a, b), (b, c)))

    def test_a_lattice_does_not_change_with_the_list(self):
        rows = [[2, 1], [1, 2]]
        lattice = Lattice(rows)
        rows[0][0] = 9
        rows.append([1])
        self.assertEqual(lattice.gram.rows, ((2, 1), (1, 2)))


class BasicsTest(unittest.TestCase):
    def test_the_example_of_the_interface(self):
        self.assertEqual(Lattice(((2, -1), (-1, 2))).norm((1, 1)), 2)
        with self.assertRaises(Malformed):
            Lattice(((1, 2), (2, 4)))

    def test_rank_determinant_and_content(self):
        self.assertEqual([HEXAGON.rank(), HEXAGON.determinant(), HEXAGON.content()], [2, 3, 1])
        lattice = Lattice(((6, -9), (-9, 15)))
        self.assertEqual([lattice.determinant(), lattice.content()], [9, 3])
        self.assertEqual(Lattice(diagonal((4, 6, 10))).content(), 2)
        self.assertEqual(Lattice(((4, 1), (1, 4))).content(), 1)
        self.assertEqual(Lattice(diagonal((10000,) * 4)).determinant(), 10 ** 16)
        for n in (1, 2, 3, 4):
            self.assertEqual(Lattice(unit(n)).rank(), n)

    def test_is_even(self):
        for gram in (((2,),), ((2, 1), (1, 2)), ((4, -1, 0), (-1, 2, 1), (0, 1, 6))):
            self.assertIs(Lattice(gram).is_even(), True)
        for gram in (((1,),), ((2, 0), (0, 1)), ((3, 2), (2, 2)), diagonal((2, 2, 2, 5))):
            self.assertIs(Lattice(gram).is_even(), False)
        for lattice in ORDINARY:
            norms = [plain_norm(lattice, v) for v in lattice.box_vectors(1)]
            self.assertEqual(lattice.is_even(), all(norm % 2 == 0 for norm in norms))

    def test_products_and_norms(self):
        source = random.Random(3)
        for lattice in ORDINARY:
            for size in (1, 9, 10 ** 40):
                v, w = [
                    tuple(source.randint(-size, size) for _ in range(lattice.rank()))
                    for _ in range(2)
                ]
                self.assertEqual(lattice.product(v, w), plain_product(lattice, v, w))
                self.assertEqual(lattice.norm(v), plain_norm(lattice, v))

    def test_what_is_no_vector(self):
        for value in NO_VECTORS:
            for act in (
                lambda x: HEXAGON.norm(x),
                lambda x: HEXAGON.product(x, (0, 0)),
                lambda x: HEXAGON.product((0, 0), x),
                lambda x: HEXAGON.product(x, x),
            ):
                with self.assertRaises(Malformed):
                    act(value)

    def test_in(self):
        for v in ((0, 0), (1, -2), (10 ** 50, 3)):
            self.assertIs(v in HEXAGON, True)
        for value in NO_VECTORS:
            self.assertIs(value in HEXAGON, False)
        self.assertIs((1, 2, 3, 4) in UNIT_4, True)

    def test_equality(self):
        self.assertIs(Lattice([[2, 1], [1, 2]]) == HEXAGON, True)
        self.assertIs(Lattice([[2, 1], [1, 2]]) != HEXAGON, False)
        self.assertIs(Lattice(((2, -1), (-1, 2))) == HEXAGON, False)
        self.assertIs(Lattice(unit(3)) == UNIT_4, False)

    def test_a_lattice_equals_no_other_value(self):
        for value in (HEXAGON.gram, HEXAGON.gram.rows, str(HEXAGON), None, 0, True, (), []):
            self.assertIs(HEXAGON == value, False)
            self.assertIs(HEXAGON != value, True)


class OtherLatticesTest(unittest.TestCase):
    def test_changed(self):
        found = SQUARE.changed(Grid(((2, 1), (1, 1))))
        self.assertEqual(found, Lattice(((5, 3), (3, 2))))
        self.assertEqual(HEXAGON.changed(Grid(((0, -1), (1, 0)))), Lattice(((2, -1), (-1, 2))))
        self.assertEqual(Lattice(((7,),)).changed(Grid(((-1,),))), Lattice(((7,),)))

    def test_the_changed_lattice_has_the_products_of_the_rows(self):
        source = random.Random(4)
        for lattice in ORDINARY:
            u = random_unimodular(source, lattice.rank())
            rows = [[plain_product(lattice, v, w) for w in u] for v in u]
            if max(abs(item) for row in rows for item in row) > 10000:
                with self.assertRaises(Refused):
                    lattice.changed(u)
            else:
                self.assertEqual(lattice.changed(u), Lattice(rows))
                self.assertEqual(lattice.changed(u).determinant(), lattice.determinant())

    def test_what_changes_no_lattice(self):
        bad = (
            Grid(((2, 0), (0, 1))), Grid(((1, 1), (1, 1))), Grid(((0, 0), (0, 0))), unit(1),
            unit(3), Grid(((1, 0),)), Grid(((1, 0), (0, 1), (0, 0))), Grid(()), Grid((), 2),
            ((1, 0), (0, 1)), [[1, 0], [0, 1]], None, 1, True, "1 0; 0 1", HEXAGON,
            # Malformed comes before refused.
            Grid(((1000, 0), (0, 1))),
        )
        for u in bad:
            with self.assertRaises(Malformed):
                HEXAGON.changed(u)

    def test_a_changed_lattice_that_is_too_large(self):
        for u in (Grid(((1, 100), (0, 1))), Grid(((1, 0), (-100, 1)))):
            with self.assertRaises(Refused) as caught:
                SQUARE.changed(u)
            self.assertEqual(caught.exception.reason, "large")
        self.assertEqual(SQUARE.changed(Grid(((1, 99), (0, 1)))).norm((1, 0)), 9802)

    def test_spanned(self):
        self.assertEqual(HEXAGON.spanned(Grid(((1, 1),))), Lattice(((6,),)))
        self.assertEqual(SQUARE.spanned(Grid(((2, 0), (1, 1)))), Lattice(((4, 2), (2, 2))))
        u = Grid(((1, 2, 0, 0), (0, 1, -1, 3)))
        self.assertEqual(UNIT_4.spanned(u), Lattice(((5, 2), (2, 11))))

    def test_the_determinant_of_a_sublattice(self):
        for u in (Grid(((3, 1), (1, 2))), Grid(((0, -7), (1, 0))), unit(2)):
            self.assertEqual(HEXAGON.spanned(u).determinant(), 3 * u.determinant() ** 2)

    def test_what_spans_nothing(self):
        bad = (
            Grid(((1, 1), (2, 2))), Grid(((0, 0),)), Grid(((1, 0), (0, 1), (1, 1))),
            Grid([(1, 0)] * 6), Grid(((1, 0, 0),)), Grid(((1,),)), Grid(()), Grid((), 2),
            ((1, 0),), [[1, 0]], None, 0, "1 0", HEXAGON,
            # Malformed comes before refused.
            Grid(((1000, 0), (2000, 0))),
        )
        for u in bad:
            with self.assertRaises(Malformed):
                HEXAGON.spanned(u)

    def test_a_sublattice_that_is_too_large(self):
        with self.assertRaises(Refused) as caught:
            SQUARE.spanned(Grid(((101, 0),)))
        self.assertEqual(caught.exception.reason, "large")
        self.assertEqual(SQUARE.spanned(Grid(((100, 0),))), Lattice(((10000,),)))

    def test_sums(self):
        found = HEXAGON + Lattice(((5,),))
        self.assertEqual(found.gram.rows, ((2, 1, 0), (1, 2, 0), (0, 0, 5)))
        self.assertEqual((Lattice(((5,),)) + HEXAGON).gram.rows, ((5, 0, 0), (0, 2, 1), (0, 1, 2)))
        self.assertEqual(SQUARE + SQUARE, UNIT_4)
        self.assertEqual((HEXAGON + SQUARE).determinant(), 3)

    def test_sums_above_rank_4_are_refused(self):
        for one, two in ((UNIT_4, Lattice(((1,),))), (Lattice(unit(3)), SQUARE), (UNIT_4, UNIT_4)):
            with self.assertRaises(Refused) as caught:
                one + two
            self.assertEqual(caught.exception.reason, "rank")

    def test_other_values_than_lattices_are_not_added(self):
        for value in (HEXAGON.gram, 1, None, "1"):
            with self.assertRaises(TypeError):
                HEXAGON + value

    def test_scaled(self):
        self.assertEqual(HEXAGON.scaled(3), Lattice(((6, 3), (3, 6))))
        self.assertEqual(HEXAGON.scaled(1), HEXAGON)
        self.assertEqual(HEXAGON.scaled(5000), Lattice(((10000, 5000), (5000, 10000))))
        for k in (0, -1, True, False, None, "2", (2,), 2.0, HEXAGON):
            with self.assertRaises(Malformed):
                HEXAGON.scaled(k)
        for k in (5001, 10 ** 20):
            with self.assertRaises(Refused) as caught:
                HEXAGON.scaled(k)
            self.assertEqual(caught.exception.reason, "large")

    def test_nothing_changes(self):
        lattice, u = Lattice(((2, 1), (1, 2))), Grid(((1, 1), (0, 1)))
        lattice.changed(u), lattice.spanned(u), lattice + lattice, lattice.scaled(2), str(lattice)
        list(lattice.box_vectors(2))
        self.assertEqual((lattice, u), (HEXAGON, Grid(((1, 1), (0, 1)))))


class BoxVectorsTest(unittest.TestCase):
    def test_all_vectors_ascending(self):
        for lattice in (Lattice(((3,),)), HEXAGON, Lattice(unit(3)), UNIT_4):
            for size in (0, 1, 2):
                expected = list(product(range(-size, size + 1), repeat=lattice.rank()))
                self.assertEqual(list(lattice.box_vectors(size)), expected)

    def test_none_for_a_negative_size(self):
        for size in (-1, -7):
            for lattice in (Lattice(((3,),)), UNIT_4):
                self.assertEqual(list(lattice.box_vectors(size)), [])

    def test_it_is_a_generator(self):
        found = UNIT_4.box_vectors(10 ** 9)
        self.assertEqual(next(found), (-10 ** 9,) * 4)
        self.assertEqual(next(found), (-10 ** 9,) * 3 + (1 - 10 ** 9,))


class TextTest(unittest.TestCase):
    def test_the_text(self):
        self.assertEqual(str(Lattice(((2, -1), (-1, 2)))), "2 -1; -1 2")
        self.assertEqual(str(Lattice(((10000,),))), "10000")
        self.assertEqual(str(UNIT_4), "1 0 0 0; 0 1 0 0; 0 0 1 0; 0 0 0 1")

    def test_reading_is_the_way_back(self):
        for lattice in ORDINARY:
            self.assertEqual(read_lattice(str(lattice)), lattice)
        self.assertEqual(read_lattice("10000 -9999; -9999 10000").gram.rows[1], (-9999, 10000))

    def test_the_example_of_the_interface(self):
        found = str(read_lattice("1 0; 0 3") + read_lattice("2"))
        self.assertEqual(found, "1 0 0; 0 3 0; 0 0 2")

    def test_texts_of_matrices_that_are_refused_or_malformed(self):
        texts = (
            "0", "-1", "10001", "1 2; 2 4", "1 2; 3 4", "1 0; 0", "1 0", "1; 0", "1 0; 0 -1",
            "1 0; 0 10001", "1 0; 0 100000", "9" * 5000, "-" + "9" * 5000,
            "1 0 0 0 0; 0 1 0 0 0; 0 0 1 0 0; 0 0 0 1 0; 0 0 0 0 1",
        )
        self.assert_no_text(texts)

    def test_numbers_that_are_written_in_another_way(self):
        texts = (
            "01", "00", "1 00; 00 1", "1 -0; -0 1", "+1", "1.0", "1e2", "0x1", "1_0", "--1",
            "2 - 1; -1 2", "\u0661", "\u00b2", "\uff11", "-", "2 -01; -01 2",
        )
        self.assert_no_text(texts)

    def test_other_spaces(self):
        texts = (
            "", " ", " 1", "1 ", "1\n", "\n1", "1\t", "1 0;0 1", "1 0 ; 0 1", "1 0;  0 1",
            "1  0; 0 1", "1 0; 0  1", "1 0; 0 1 ", "1 0; 0 1;", "1 0; 0 1; ", "; 1", ";", "; ",
            "1 0\n0 1", "1\u00a00; 0 1", "1 0;\n0 1", "1,0; 0,1",
        )
        self.assert_no_text(texts)

    def test_values_that_are_no_strings(self):
        self.assert_no_text((None, 1, True, (), [], ("1",), b"1", HEXAGON, HEXAGON.gram, {}))

    def assert_no_text(self, values):
        for value in values:
            with self.assertRaises(NoText) as caught:
                read_lattice(value)
            self.assertEqual(caught.exception.at, 0)


if __name__ == "__main__":
    unittest.main()
