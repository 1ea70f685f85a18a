import unittest

from lattices import CUBE, HEXAGON, LINE, SKEW_SQUARE, SMALL, SQUARE, UNIT_4

from gridmetric.grid import Grid
from gridmetric.least import least_bases, levels
from gridmetric.maps import find_map, generators, order, word_of
from gridmetric.papers import group_paper, levels_paper, pair_paper


class LevelsPaperTest(unittest.TestCase):
    def test_it_has_the_levels(self):
        for lattice in SMALL:
            self.assertEqual(levels_paper(lattice), ("levels", levels(lattice)))


class PairPaperTest(unittest.TestCase):
    def test_alike(self):
        for a in (LINE, SQUARE, HEXAGON, CUBE):
            self.assertEqual(pair_paper(a, a), ("alike", find_map(a, a)))
        self.assertEqual(pair_paper(SQUARE, SKEW_SQUARE), ("alike", find_map(SQUARE, SKEW_SQUARE)))

    def test_unlike(self):
        expected = ("unlike", levels_paper(SQUARE), levels_paper(HEXAGON))
        self.assertEqual(pair_paper(SQUARE, HEXAGON), expected)

    def test_unlike_ranks(self):
        self.assertEqual(pair_paper(SQUARE, CUBE), ("unlike", (), ()))
        self.assertEqual(pair_paper(UNIT_4, LINE), ("unlike", (), ()))


class GroupPaperTest(unittest.TestCase):
    def test_its_items(self):
        for a in SMALL + (UNIT_4,):
            name, number, maps, words, table = group_paper(a)
            self.assertEqual((name, number), ("group", order(a)))
            self.assertEqual(maps, generators(a))
            self.assertEqual(len(words), number)
            self.assertEqual(table, levels_paper(a))

    def test_the_words_are_those_of_the_maps_to_the_least_bases(self):
        for a in (LINE, SQUARE, HEXAGON, SKEW_SQUARE, CUBE):
            _, _, maps, words, _ = group_paper(a)
            bases = least_bases(a)
            back = Grid(bases[0].rows).inverse()
            expected = [word_of(a, maps, back * basis) for basis in bases]
            self.assertEqual(list(words), expected)

    def test_the_first_word_is_empty(self):
        for a in (LINE, SQUARE, UNIT_4):
            self.assertEqual(group_paper(a)[3][0], ())


if __name__ == "__main__":
    unittest.main()
