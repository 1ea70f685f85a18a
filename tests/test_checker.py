import ast
import pathlib
import random
import unittest
from itertools import product

from lattices import (
    CUBE, HEXAGON, LINE, LONG_SQUARE, ORDINARY, ROOTS_4, SKEW_SQUARE, SMALL, SQUARE, UNIT_4,
    pairs_of_bases, skewed, vectors_by_box,
)
from papers_by_words import OTHER_VALUES, changes, mark_behind, same, takes_by_words
from test_maps import UNLIKE

import gridmetric.checker
from gridmetric.checker import box, low_vectors, takes_group, takes_levels, takes_pair
from gridmetric.grid import Grid, unit
from gridmetric.lattice import Lattice
from gridmetric.least import levels
from gridmetric.maps import all_maps, find_map, self_maps
from gridmetric.papers import group_paper, levels_paper, pair_paper

THREE_PARTS = Lattice(((1, 0, 0), (0, 2, 1), (0, 1, 5)))


def with_level(paper, k, mark, tuples):
    table = paper[1]
    return ("levels", table[:k] + ((mark, tuples),) + table[k + 1:])


def equal_products(maps, one, two):
    """Both are words by the maps, and have one product."""
    if not isinstance(two, tuple) or not all(type(k) is int and 0 <= k < len(maps) for k in two):
        return False
    found = [unit(maps[0].width)] * 2
    for at, word in enumerate((one, two)):
        for k in word:
            found[at] = found[at] * maps[k]
    return found[0] == found[1]


class BoxTest(unittest.TestCase):
    def test_the_words_of_the_document(self):
        for lattice in SMALL + (UNIT_4, ROOTS_4):
            d, adjugate = lattice.determinant(), lattice.gram.adjugate().rows
            for norm in (0, 1, 2, 3):
                bounds = [norm * adjugate[k][k] for k in range(lattice.rank())]
                expected = tuple(
                    v for v in lattice.box_vectors(4)
                    if any(v) and all(x * x * d <= bound for x, bound in zip(v, bounds))
                )
                self.assertLess(max(bounds), 25 * d)
                self.assertEqual(box(lattice, norm), expected)

    def test_each_vector_up_to_the_norm_is_in_it(self):
        for lattice in ORDINARY:
            for norm in (1, 3):
                self.assertLessEqual(set(vectors_by_box(lattice, norm)), set(box(lattice, norm)))

    def test_what_is_searched_are_its_vectors_up_to_the_norm(self):
        for lattice in SMALL + (UNIT_4, ROOTS_4, *[skew for _, skew, _ in pairs_of_bases(1)[:6]]):
            for norm in (1, 2, 4):
                found = low_vectors(lattice, norm, 0)
                expected = [v for v in box(lattice, norm) if lattice.norm(v) <= norm]
                self.assertEqual(sorted(found), expected)
                for inner in range(1, lattice.rank()):
                    outer = [v for v in found if any(v[inner:])]
                    self.assertEqual(low_vectors(lattice, norm, inner), outer)

    def test_small_ones(self):
        self.assertEqual(box(LINE, 0), ())
        self.assertEqual(box(LINE, 3), ((-1,), (1,)))
        self.assertEqual(box(LINE, 4), ((-2,), (-1,), (1,), (2,)))
        self.assertEqual(box(HEXAGON, 2)[:3], ((-1, -1), (-1, 0), (-1, 1)))
        self.assertEqual(len(box(HEXAGON, 2)), 8)
        self.assertEqual(len(box(UNIT_4, 1)), 80)


class LevelsTest(unittest.TestCase):
    def test_the_example_of_the_document(self):
        paper = ("levels", (((1,), (((-1,),), ((1,),))),))
        self.assertEqual(levels_paper(LINE), paper)
        self.assertIs(takes_levels(LINE, paper), True)
        for left in ((((-1,),),), (((1,),),)):
            self.assertIs(takes_levels(LINE, ("levels", (((1,), left),))), False)

    def test_the_papers_of_the_levels_are_taken(self):
        for lattice in ORDINARY:
            paper = levels_paper(lattice)
            self.assertEqual(paper, ("levels", levels(lattice)))
            self.assertIs(takes_levels(lattice, paper), True)

    def test_skew_bases_with_large_items(self):
        for lattice, skew, _ in pairs_of_bases(1):
            one, two = levels_paper(skew), levels_paper(lattice)
            self.assertIs(takes_levels(skew, one), True)
            self.assertIs(takes_levels(skew, two), one == two)

    def test_each_single_change_is_noticed(self):
        for lattice in (LINE, SQUARE, HEXAGON, LONG_SQUARE, SKEW_SQUARE):
            paper = levels_paper(lattice)
            for changed in changes(paper):
                self.assertFalse(same(changed, paper))
                self.assertIs(takes_levels(lattice, changed), False, changed)

    def test_tuples_left_out_or_twice_at_each_level(self):
        for lattice in (THREE_PARTS, CUBE, HEXAGON + LONG_SQUARE):
            paper = levels_paper(lattice)
            for k, (mark, tuples) in enumerate(paper[1]):
                for at in range(0, len(tuples), 5):
                    left = tuples[:at] + tuples[at + 1:]
                    twice = tuples[:at] + tuples[at:at + 1] + tuples[at:]
                    turned = tuples[:at] + tuples[at:][::-1]
                    for found in (left, twice, turned):
                        if found != tuples:
                            changed = with_level(paper, k, mark, found)
                            self.assertIs(takes_levels(lattice, changed), False)

    def test_a_tuple_left_out_with_all_that_goes_on_from_it(self):
        for lattice in (SQUARE, HEXAGON, THREE_PARTS, CUBE):
            table = levels(lattice)
            for k in range(lattice.rank()):
                gone = table[k][1][0]
                changed = tuple(
                    (mark, tuple(one for one in tuples if one[:k + 1] != gone))
                    for mark, tuples in table
                )
                self.assertIs(takes_levels(lattice, ("levels", changed)), False)

    def test_levels_left_out_or_put_behind(self):
        for lattice in (LINE, HEXAGON, CUBE):
            table = levels(lattice)
            for changed in (table[1:], table[:-1], table + table[-1:], table + ((),), table[::-1]):
                if changed != table:
                    self.assertIs(takes_levels(lattice, ("levels", changed)), False)

    def test_levels_with_a_greater_mark(self):
        # The words of 5.3 hold except that a lesser mark is passed over.
        table = (((2,), (((0, -1),), ((0, 1),))),
                 ((1, 0), (((0, -1), (-1, 0)), ((0, -1), (1, 0)),
                           ((0, 1), (-1, 0)), ((0, 1), (1, 0)))))
        self.assertIs(takes_levels(LONG_SQUARE, ("levels", table)), False)
        first = levels(LONG_SQUARE)[0]
        longer = [(start, (x, y)) for start in ((-1, 0), (1, 0)) for x in (-1, 1) for y in (-1, 1)]
        for mark in ((3, -1), (3, 1)):
            tuples = tuple(sorted(
                one for one in longer if mark_behind(LONG_SQUARE, one[:1], one[1]) == mark
            ))
            self.assertIs(takes_levels(LONG_SQUARE, ("levels", (first, (mark, tuples)))), False)

    def test_a_very_great_mark_is_found_out_soon(self):
        v = (10 ** 20, 1, 0, 0)
        norm = 10 ** 40 + 1
        table = (((norm,), ((v,),)),) + levels(UNIT_4)[1:]
        self.assertIs(takes_levels(UNIT_4, ("levels", table)), False)
        first = levels(SQUARE)[0]
        far = tuple((start[0], (y, x)) for start in first[1] for x, y in [(1, 10 ** 9)])
        self.assertIs(takes_levels(SQUARE, ("levels", (first, ((10 ** 18 + 1, 0), far)))), False)

    def test_vectors_that_are_not_primitive(self):
        double = Lattice(((1, 0), (0, 16)))
        table = levels(double)
        changed = (((4,), (((-2, 0),), ((2, 0),))), table[1])
        self.assertIs(takes_levels(double, ("levels", changed)), False)
        zero = (((0,), (((0, 0),),)), table[1])
        self.assertIs(takes_levels(double, ("levels", zero)), False)

    def test_papers_of_other_lattices(self):
        papers = [levels_paper(lattice) for lattice in SMALL]
        for lattice, own in zip(SMALL, papers):
            for paper in papers:
                self.assertIs(takes_levels(lattice, paper), paper == own)

    def test_the_words_of_the_document(self):
        source = random.Random(12)
        for lattice in (SQUARE, HEXAGON, LONG_SQUARE, SKEW_SQUARE, THREE_PARTS):
            table = levels(lattice)
            for _ in range(60):
                k = source.randrange(len(table))
                mark, tuples = table[k]
                kept = tuple(one for one in tuples if source.random() < 0.9)
                changed = with_level(("levels", table), k, mark, kept)
                self.assertIs(takes_levels(lattice, changed), takes_by_words(lattice, changed))
            self.assertTrue(takes_by_words(lattice, ("levels", table)))

    def test_lattices_with_one_or_two_long_vectors(self):
        for numbers in ((1, 1, 1, 10000), (1, 10000, 1, 10000)):
            rows = [[x if i == j else 0 for j in range(4)] for i, x in enumerate(numbers)]
            lattice = Lattice(rows)
            paper = levels_paper(lattice)
            self.assertIs(takes_levels(lattice, paper), True)
            mark, tuples = paper[1][3]
            self.assertIs(takes_levels(lattice, with_level(paper, 3, mark, tuples[1:])), False)

    def test_other_values(self):
        for lattice in (LINE, SQUARE, UNIT_4):
            for value in OTHER_VALUES:
                self.assertIs(takes_levels(lattice, value), False)

    def test_a_deep_value(self):
        value = ()
        for _ in range(50000):
            value = (value,)
        for paper in (value, ("levels", value), ("levels", ((value, value),)), ("unlike", value, value)):
            self.assertIs(takes_levels(LINE, paper), False)
            self.assertIs(takes_pair(LINE, LINE, paper), False)
            self.assertIs(takes_pair(LINE, SQUARE, paper), False)
            self.assertIs(takes_group(LINE, paper), False)
        # A tuple that is so deep is taken apart step by step.
        while value:
            value = value[0]


class PairTest(unittest.TestCase):
    def test_the_example_of_the_document(self):
        two = Lattice(((2,),))
        paper = pair_paper(LINE, two)
        self.assertEqual(paper, ("unlike", levels_paper(LINE), levels_paper(two)))
        self.assertEqual([part[1][0][0] for part in paper[1:]], [(1,), (2,)])
        self.assertIs(takes_pair(LINE, two, paper), True)

    def test_alike_lattices(self):
        for a, b, _ in pairs_of_bases(1):
            paper = pair_paper(a, b)
            self.assertEqual(paper[0], "alike")
            self.assertIs(takes_pair(a, b, paper), True)
            self.assertIs(takes_pair(b, a, ("alike", paper[1].inverse())), True)

    def test_a_lattice_with_itself(self):
        for a in SMALL:
            levels_of_a = levels_paper(a)
            self.assertIs(takes_pair(a, a, pair_paper(a, a)), True)
            self.assertIs(takes_pair(a, a, ("alike", unit(a.rank()))), True)
            self.assertIs(takes_pair(a, a, ("unlike", levels_of_a, levels_of_a)), False)

    def test_unlike_lattices(self):
        for one, two in UNLIKE:
            for a, b in ((one, two), (two, one)):
                paper = pair_paper(a, b)
                self.assertEqual(paper, ("unlike", levels_paper(a), levels_paper(b)))
                self.assertIs(takes_pair(a, b, paper), True)
                self.assertIs(takes_pair(b, a, paper), False)
                self.assertIs(takes_pair(a, b, ("unlike", (), ())), False)
                self.assertIs(takes_pair(a, b, ("unlike", paper[1], paper[1])), False)
                self.assertIs(takes_pair(a, b, ("unlike", paper[1], ())), False)
                self.assertIs(takes_pair(a, b, ("alike", unit(a.rank()))), False)
                self.assertIs(takes_pair(a, b, ("alike", paper[1], paper[2])), False)

    def test_alike_lattices_are_never_unlike(self):
        paper = ("unlike", levels_paper(SQUARE), levels_paper(SKEW_SQUARE))
        self.assertIs(takes_pair(SQUARE, SKEW_SQUARE, paper), False)

    def test_unlike_ranks_have_one_paper_alone(self):
        for a, b in ((LINE, SQUARE), (SQUARE, LINE), (CUBE, UNIT_4), (UNIT_4, LINE)):
            paper = pair_paper(a, b)
            self.assertEqual(paper, ("unlike", (), ()))
            self.assertIs(takes_pair(a, b, paper), True)
            others = (
                ["unlike", (), ()], ("unlike", [], ()), ("unlike", (), []), ("unlike", ()),
                ("unlike", (), (), ()), ("unlike", levels_paper(a), levels_paper(b)),
                ("alike", unit(a.rank())), ("alike", unit(b.rank())), ("alike", ()),
                ("unlike", Grid(()), Grid(())), ("unlike", "", ""), ("unlike", None, None),
            )
            for value in others:
                self.assertIs(takes_pair(a, b, value), False)

    def test_all_maps_and_nothing_else_are_taken(self):
        for a, b in ((SQUARE, SKEW_SQUARE), (SKEW_SQUARE, SQUARE), (HEXAGON, HEXAGON)):
            maps = [m.rows for m in all_maps(a, b)]
            for first in product(range(-3, 4), repeat=2):
                for second in ((0, 1), (1, 0), (1, -1), (2, -3), (-1, 2), (1, 1)):
                    m = Grid((first, second))
                    self.assertIs(takes_pair(a, b, ("alike", m)), m.rows in maps)

    def test_wrong_maps(self):
        m = find_map(SKEW_SQUARE, SQUARE)
        wrong = (
            m.scaled(2), m.rows, [list(row) for row in m.rows], m.transposed().stacked(m),
            Grid(m.rows[:1]), Grid(()), Grid((), 2), unit(1), unit(3), Grid([row + (0,) for row in m]),
            m + Grid(((1, 0), (0, 0))), m.scaled(0), m.inverse(), ("grid", m.rows), None, True, 1,
        )
        for value in wrong:
            self.assertIs(takes_pair(SKEW_SQUARE, SQUARE, ("alike", value)), False)
        for paper in (("alike", m, m), ["alike", m], ("Alike", m), ("unlike", m), (m, "alike"), m,
                      ("alike",), (True, m), ("alike", (m,))):
            self.assertIs(takes_pair(SKEW_SQUARE, SQUARE, paper), False)

    def test_a_map_with_a_determinant_of_another_size(self):
        # The products fit, but the rows span a sublattice only.
        self.assertIs(takes_pair(Lattice(((4,),)), LINE, ("alike", Grid(((2,),)))), False)
        four = Lattice(((2, 0), (0, 2)))
        self.assertIs(takes_pair(four, SQUARE, ("alike", Grid(((1, 1), (1, -1))))), False)

    def test_each_single_change_is_noticed(self):
        a, b = LINE, Lattice(((2,),))
        paper = pair_paper(a, b)
        for changed in changes(paper):
            self.assertIs(takes_pair(a, b, changed), False, changed)

    def test_other_values(self):
        for a, b in ((LINE, LINE), (SQUARE, SKEW_SQUARE), (SQUARE, LONG_SQUARE)):
            for value in OTHER_VALUES:
                self.assertIs(takes_pair(a, b, value), False)
        for value in OTHER_VALUES:
            self.assertIs(takes_pair(LINE, UNIT_4, value), value == ("unlike", (), ()))


class GroupTest(unittest.TestCase):
    def test_the_papers_of_the_groups_are_taken(self):
        for a in SMALL:
            self.assertIs(takes_group(a, group_paper(a)), True)

    def test_the_paper_of_a_line(self):
        paper = group_paper(LINE)
        self.assertEqual(paper, ("group", 2, (Grid(((-1,),)),), ((), (0,)), levels_paper(LINE)))

    def test_skew_bases_with_large_items(self):
        source = random.Random(13)
        for lattice in (HEXAGON, CUBE, THREE_PARTS, HEXAGON + SQUARE):
            skew, _ = skewed(source, lattice)
            paper = group_paper(skew)
            self.assertEqual(paper[1], group_paper(lattice)[1])
            self.assertIs(takes_group(skew, paper), True)

    def test_each_single_change_is_noticed(self):
        for a in (LINE, LONG_SQUARE):
            paper = group_paper(a)
            for changed in changes(paper):
                if not self.is_still_right(a, paper, changed):
                    self.assertIs(takes_group(a, changed), False, changed)

    def is_still_right(self, a, paper, changed):
        """Nothing else is wrong with maps behind the others, or with words of equal products."""
        if not isinstance(changed, tuple) or len(changed) != 5:
            return False
        parts = [k for k in range(5) if not same(paper[k], changed[k])]
        if parts == [2] and isinstance(changed[2], tuple):
            many = len(paper[2])
            return changed[2][:many] == paper[2] and all(m in self_maps(a) for m in changed[2])
        if parts == [3] and isinstance(changed[3], tuple) and len(changed[3]) == paper[1]:
            pairs = zip(paper[3], changed[3])
            return all(same(one, two) or equal_products(paper[2], one, two) for one, two in pairs)
        return False

    def test_the_order_is_that_of_the_words_and_of_the_bases(self):
        for a in (SQUARE, CUBE):
            name, order, maps, words, table = group_paper(a)
            for changed in (
                (name, order + 1, maps, words, table), (name, order - 1, maps, words, table),
                (name, order + 1, maps, words + ((),), table),
                (name, order - 1, maps, words[:-1], table),
                (name, str(order), maps, words, table), (name, (order,), maps, words, table),
                (name, order, maps, words[:-1], table), (name, 0, maps, (), table),
            ):
                self.assertIs(takes_group(a, changed), False)

    def test_wrong_words(self):
        for a in (SQUARE, HEXAGON):
            name, order, maps, words, table = group_paper(a)
            exchanged = (words[1], words[0]) + words[2:]
            # From behind, these would be the right indexes.
            negative = tuple(tuple(k - len(maps) for k in word) for word in words)
            beyond = words[:-1] + (words[-1] + (len(maps),),)
            lists = tuple(list(word) for word in words)
            bools = tuple(tuple(bool(k) if k < 2 else k for k in word) for word in words)
            numbers = tuple(0 for _ in words)
            for changed in (exchanged, negative, beyond, lists, bools, numbers, list(words),
                            words[::-1], words[:-1] + (None,), words[:-1] + ("",), None):
                self.assertIs(takes_group(a, (name, order, maps, changed, table)), False)

    def test_wrong_maps(self):
        for a in (SQUARE, HEXAGON):
            name, order, maps, words, table = group_paper(a)
            rows = tuple(m.rows for m in maps)
            doubled = tuple(m.scaled(2) for m in maps)
            for changed in (doubled, maps[:-1] + (maps[-1].scaled(2),), maps[1:], maps[:-1], (),
                            maps[::-1], list(maps), rows, maps + (None,), maps + (unit(3),),
                            maps + (Grid(()),), maps + (Grid(((1, 1), (0, 1))),), None):
                self.assertIs(takes_group(a, (name, order, changed, words, table)), False)

    def test_other_generators_and_longer_words_are_taken(self):
        turn, swap = Grid(((0, 1), (-1, 0))), Grid(((0, 1), (1, 0)))
        name, order, maps, words, table = group_paper(SQUARE)
        self.assertIs(takes_group(SQUARE, (name, order, maps + (turn,), words, table)), True)
        longer = tuple((0, 0) + word for word in words)
        self.assertEqual(maps[0] * maps[0], unit(2))
        self.assertIs(takes_group(SQUARE, (name, order, maps, longer, table)), True)
        bases = table[1][-1][1]
        found = [Grid(bases[0]).inverse() * Grid(basis) for basis in bases]
        each = tuple((k,) for k in range(order))
        self.assertIs(takes_group(SQUARE, (name, order, tuple(found), each, table)), True)
        self.assertIn(turn, found)
        self.assertIn(swap, found)

    def test_papers_of_other_lattices(self):
        lattices = (LINE, Lattice(((7,),)), SQUARE, SKEW_SQUARE, HEXAGON, LONG_SQUARE, CUBE)
        papers = [group_paper(lattice) for lattice in lattices]
        for a in lattices:
            for paper in papers:
                if paper[4] != levels_paper(a):
                    self.assertIs(takes_group(a, paper), False)

    def test_levels_that_are_not_taken(self):
        name, order, maps, words, table = group_paper(HEXAGON)
        for changed in (("levels", table[1][:1]), table[1], None, levels_paper(SQUARE),
                        ("levels", list(table[1])), list(table)):
            self.assertIs(takes_group(HEXAGON, (name, order, maps, words, changed)), False)

    def test_other_values(self):
        for a in (LINE, SQUARE, UNIT_4):
            for value in OTHER_VALUES:
                self.assertIs(takes_group(a, value), False)
        name, order, maps, words, table = group_paper(SQUARE)
        for changed in ([name, order, maps, words, table], (name, order, maps, words),
                        (name, order, maps, words, table, ()), ("Group", order, maps, words, table),
                        (None, order, maps, words, table), (name, True, maps, words, table)):
            self.assertIs(takes_group(SQUARE, changed), False)

    def test_groups_of_rank_4(self):
        for a, order in ((UNIT_4, 384), (ROOTS_4, 1152)):
            paper = group_paper(a)
            self.assertEqual(paper[1], order)
            self.assertIs(takes_group(a, paper), True)
            words = (paper[3][1], paper[3][0]) + paper[3][2:]
            self.assertIs(takes_group(a, paper[:3] + (words, paper[4])), False)


class IndependenceTest(unittest.TestCase):
    def test_the_checker_does_not_use_what_it_checks(self):
        folder = pathlib.Path(gridmetric.checker.__file__).parent
        left, seen = ["checker"], set()
        while left:
            name = left.pop()
            seen.add(name)
            tree = ast.parse((folder / f"{name}.py").read_text(encoding="utf-8"))
            for node in ast.walk(tree):
                if isinstance(node, ast.ImportFrom) and node.module.startswith("gridmetric."):
                    left.append(node.module.split(".")[1])
        self.assertEqual(seen & {"least", "maps", "short", "nearest", "papers"}, set())


if __name__ == "__main__":
    unittest.main()
