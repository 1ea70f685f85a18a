"""The main facts of the document (point 0.4), over drawn lattices and other bases of them."""

import random
import unittest
from itertools import product

from lattices import levels_by_box, near_by_box, pairs_of_bases, random_lattice, vectors_by_box

from gridmetric.checker import takes_levels, takes_pair
from gridmetric.console import Console
from gridmetric.grid import Grid
from gridmetric.least import form, least_bases
from gridmetric.log import first_wrong, read_log, write_log
from gridmetric.maps import all_maps, order
from gridmetric.nearest import nearest
from gridmetric.papers import levels_paper, pair_paper
from gridmetric.parts import finest_parts, is_parting, part_lattices
from gridmetric.short import short_vectors

DRAWN = [found for found in pairs_of_bases(1) if max(max(row) for row in found[0].gram) < 20]


def maps_by_search(a, b):
    """All maps, row by row: each row is a vector of b with the products that a tells."""
    n = a.rank()
    vectors = vectors_by_box(b, max(a.gram.rows[k][k] for k in range(n)))
    found = [()]
    for k in range(n):
        found = [
            rows + (v,) for rows in found for v in vectors
            if b.norm(v) == a.gram.rows[k][k]
            and all(b.product(w, v) == a.gram.rows[k][i] for i, w in enumerate(rows))
        ]
    return sorted(rows for rows in found if Grid(rows).is_unimodular())


class FactsTest(unittest.TestCase):
    def test_equal_forms_exactly_if_there_is_a_map(self):
        source = random.Random(71)
        pool = [random_lattice(source, rank, 1) for rank in (1, 2, 2, 2, 3, 3) for _ in "ab"]
        met = set()
        for a, b in product(pool, repeat=2):
            if a.rank() == b.rank():
                maps = maps_by_search(a, b)
                self.assertEqual(form(a) == form(b), len(maps) > 0)
                self.assertEqual([m.rows for m in all_maps(a, b)], maps)
                met.add((str(a) == str(b), len(maps) > 0))
        self.assertEqual(met, {(True, True), (False, True), (False, False)})

    def test_all_maps_to_another_basis(self):
        for a, b, basis in DRAWN:
            self.assertEqual(form(a), form(b))
            # The basis is one map, and the others go on from it by a map of a to itself.
            expected = sorted((basis * Grid(rows)).rows for rows in maps_by_search(a, a))
            self.assertEqual([m.rows for m in all_maps(b, a)], expected)

    def test_an_accepted_paper_has_exactly_the_least_bases(self):
        for a, b, _ in DRAWN:
            table = levels_by_box(a)
            self.assertIs(takes_levels(a, ("levels", table)), True)
            self.assertEqual([grid.rows for grid in least_bases(a)], list(table[-1][1]))
            self.assertIs(takes_levels(b, levels_paper(b)), True)
            for k, (mark, tuples) in enumerate(table):
                for at in {0, len(tuples) - 1}:
                    fewer = (mark, tuples[:at] + tuples[at + 1:])
                    paper = ("levels", table[:k] + (fewer,) + table[k + 1:])
                    self.assertIs(takes_levels(a, paper), False)

    def test_only_alike_lattices_have_a_paper_that_they_are(self):
        for (a, b, basis), (c, _, _) in zip(DRAWN, DRAWN[1:]):
            self.assertIs(takes_pair(b, a, ("alike", basis)), True)
            self.assertEqual(pair_paper(a, c)[0], "alike" if form(a) == form(c) else "unlike")

    def test_no_vector_is_left_out(self):
        source = random.Random(72)
        for a, b, basis in DRAWN:
            most = a.gram.rows[0][0] + 2
            vectors = vectors_by_box(a, most)
            self.assertEqual(list(short_vectors(a, most)), vectors)
            moved = [basis.before(v) for v in short_vectors(b, most)]
            self.assertEqual(sorted(moved), sorted(vectors))
            point = tuple(source.randint(-9, 9) for _ in range(a.rank()))
            found = nearest(a, point, 4)[0]
            near = near_by_box(a, point, 4, a.norm(tuple(4 * x - y for x, y in zip(found[0], point))))
            self.assertEqual(list(found), sorted(v for norm, v in near if norm == near[0][0]))

    def test_there_is_one_finest_parting(self):
        for a, b, basis in DRAWN:
            moved = [(grid * basis).hermite()[0].rows for grid in finest_parts(b)]
            expected = [grid.rows for grid in finest_parts(a)]
            self.assertEqual(sorted(moved, key=lambda rows: (len(rows), rows)), expected)
            self.assertIs(is_parting(a, finest_parts(a)), True)
            for part in part_lattices(a):
                self.assertEqual([grid.rows for grid in finest_parts(part)],
                                 [Grid([[int(i == j) for j in range(part.rank())]
                                        for i in range(part.rank())]).rows])

    def test_a_console_tells_the_same(self):
        for a, b, _ in DRAWN[::2]:
            console = Console()
            console.enter(f"let a = {a}"), console.enter(f"let b = {b}")
            self.assertEqual(console.names(), {"a": a, "b": b})
            self.assertEqual(console.enter("form a"), console.enter("form b"))
            self.assertEqual(console.enter("alike a b")[1], "yes")
            self.assertEqual(console.enter("group b")[1], str(order(a)))
            self.assertEqual(console.enter("dual a"), console.enter("dual b"))
            for line in ("parts a", "below b 12", "above b", "short a 9", "nearest b" + " 1" * a.rank() + " / 2"):
                console.enter(line)
            self.assertEqual(first_wrong(read_log(write_log(console.entries()))), -1)


if __name__ == "__main__":
    unittest.main()
