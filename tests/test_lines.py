"""Points 2 to 5: lines, sights, layings."""

import itertools
import unittest
from math import comb

from helper import agrees, all_lines, all_sights, mixed_cells, plain_best, plain_layings, plain_runs, soon
from runpaint.errors import NoLaying, NoNumber
from runpaint.lines import best, laying, layings, number_of, runs_of

MOST = 6


def runs_to_try(length):
    """All runs that some line of the length has, and some that find no room in it."""
    fitting = sorted({plain_runs(cells) for cells in all_lines(length)})
    return fitting + [(length + 1,), (length, 1), (1, length), (1,) * (length // 2 + 2), (40,), (40,) * 20]


class RunsOf(unittest.TestCase):

    def check(self, cells, runs):
        told = runs_of(cells)
        self.assertEqual(told, runs)
        self.assertIs(type(told), tuple)
        self.assertTrue(all(type(run) is int for run in told))

    def test_the_line_of_point_2(self):
        self.check([1, 1, 0, 1], (2, 1))

    def test_no_cells(self):
        self.check([], ())

    def test_no_full_cells(self):
        self.check([0], ())
        self.check([0, 0, 0, 0, 0], ())

    def test_all_full(self):
        self.check([1], (1,))
        self.check([1, 1, 1, 1, 1], (5,))

    def test_empty_cells_at_the_ends_and_between(self):
        self.check([0, 0, 1, 1, 0, 0, 0, 1, 0], (2, 1))

    def test_forty_cells(self):
        self.check([1] * 40, (40,))
        self.check([0] * 40, ())
        self.check([1, 0] * 20, (1,) * 20)
        self.check([0, 1] * 20, (1,) * 20)
        self.check([1] * 19 + [0, 0] + [1] * 19, (19, 19))

    def test_all_short_lines(self):
        for length in range(11):
            for cells in all_lines(length):
                self.check(cells, plain_runs(cells))


class ShortLines(unittest.TestCase):
    """Every sight of a few cells, against all lists of 0 and 1."""

    def every_case(self, most=MOST):
        for length in range(most + 1):
            lines = all_lines(length)
            for runs in runs_to_try(length):
                having = [cells for cells in lines if plain_runs(cells) == runs]
                for sight in all_sights(length):
                    yield runs, sight, [cells for cells in having if agrees(sight, cells)]

    def test_how_many(self):
        for runs, sight, found in self.every_case():
            self.assertEqual(layings(runs, sight), len(found), (runs, sight))

    def test_each_laying_of_its_number_and_back(self):
        for runs, sight, found in self.every_case():
            for number, cells in enumerate(found):
                self.assertEqual(laying(runs, sight, number), cells, (runs, sight, number))
                self.assertEqual(number_of(runs, sight, cells), number, (runs, sight, cells))

    def test_numbers_that_no_laying_has(self):
        for runs, sight, found in self.every_case(4):
            for number in (-1, -len(found) - 1, len(found), len(found) + 1, 10 ** 30, -10 ** 30):
                with self.assertRaises(NoNumber, msg=(runs, sight, number)):
                    laying(runs, sight, number)

    def test_lists_that_are_no_laying(self):
        for runs, sight, found in self.every_case(4):
            for length in range(len(sight) + 3):
                for cells in all_lines(length):
                    if cells not in found:
                        with self.assertRaises(NoLaying, msg=(runs, sight, cells)):
                            number_of(runs, sight, cells)

    def test_best(self):
        for runs, sight, found in self.every_case():
            if found:
                self.assertEqual(best(runs, sight), plain_best(found), (runs, sight))
            else:
                with self.assertRaises(NoLaying, msg=(runs, sight)):
                    best(runs, sight)

    def test_longer_lines_with_some_cells_told(self):
        for seed in range(60):
            length = 8 + seed % 6
            cells = mixed_cells(seed, length)
            hidden = mixed_cells(seed + 1000, length)
            sight = [None if hide else cell for cell, hide in zip(cells, hidden)]
            runs = plain_runs(cells)
            found = plain_layings(runs, sight)
            self.assertEqual(layings(runs, sight), len(found))
            self.assertEqual([laying(runs, sight, number) for number in range(len(found))], found)
            self.assertEqual([number_of(runs, sight, one) for one in found], list(range(len(found))))
            self.assertEqual(best(runs, sight), plain_best(found))


class Layings(unittest.TestCase):
    """The edges that points 3 to 5 name, written out."""

    def refused(self, runs, sight):
        self.assertEqual(layings(runs, sight), 0)
        with self.assertRaises(NoNumber):
            laying(runs, sight, 0)
        with self.assertRaises(NoLaying):
            best(runs, sight)

    def test_the_order(self):
        sight = [None] * 4
        self.assertEqual(layings((1, 1), sight), 3)
        self.assertEqual(laying((1, 1), sight, 0), [0, 1, 0, 1])
        self.assertEqual(laying((1, 1), sight, 1), [1, 0, 0, 1])
        self.assertEqual(laying((1, 1), sight, 2), [1, 0, 1, 0])

    def test_a_sight_that_tells_all(self):
        self.assertEqual(layings((2, 1), [1, 1, 0, 1]), 1)
        self.assertEqual(laying((2, 1), [1, 1, 0, 1], 0), [1, 1, 0, 1])
        self.assertEqual(number_of((2, 1), [1, 1, 0, 1], [1, 1, 0, 1]), 0)
        self.assertEqual(best((2, 1), [1, 1, 0, 1]), [1, 1, 0, 1])
        self.refused((1, 2), [1, 1, 0, 1])

    def test_a_cell_that_no_laying_has(self):
        self.refused((3,), [None, None, 0, None])
        self.refused((2, 1), [None, None, 1, None])
        self.refused((), [None, 1, None])

    def test_no_room(self):
        self.refused((5,), [None] * 4)
        self.refused((2, 2), [None] * 4)
        self.refused((40,), [None] * 39)
        self.refused((40,) * 20, [None] * 40)
        self.refused((1,) * 20, [None] * 38)

    def test_no_runs(self):
        self.assertEqual(layings((), [None, 0, None]), 1)
        self.assertEqual(laying((), [None, 0, None], 0), [0, 0, 0])
        self.assertEqual(number_of((), [None, 0, None], [0, 0, 0]), 0)
        self.assertEqual(best((), [None, 0, None]), [0, 0, 0])

    def test_a_sight_of_no_cells(self):
        self.assertEqual(layings((), []), 1)
        self.assertEqual(laying((), [], 0), [])
        self.assertEqual(number_of((), [], []), 0)
        self.assertEqual(best((), []), [])
        self.refused((1,), [])
        with self.assertRaises(NoNumber):
            laying((), [], 1)
        with self.assertRaises(NoLaying):
            number_of((), [], [0])
        with self.assertRaises(NoLaying):
            number_of((1,), [], [])

    def test_numbers_below_and_beyond(self):
        for number in (-1, -3, 3, 4, 10 ** 40, -10 ** 40):
            with self.subTest(number=number), self.assertRaises(NoNumber):
                laying((2,), [None] * 4, number)

    def test_lists_of_another_length(self):
        for cells in ([], [1, 1], [1, 1, 0], [1, 1, 0, 0, 0], [0, 1, 1, 0, 0], [1, 1] + [0] * 38):
            with self.subTest(cells=cells), self.assertRaises(NoLaying):
                number_of((2,), [None] * 4, cells)

    def test_lists_that_the_sight_or_the_runs_rule_out(self):
        for cells in ([1, 1, 0, 0], [0, 0, 0, 0], [0, 1, 0, 1], [0, 1, 1, 1]):
            with self.subTest(cells=cells), self.assertRaises(NoLaying):
                number_of((2,), [0, None, None, None], cells)

    def test_kinds(self):
        self.assertIs(type(layings((1,), [None, 0])), int)
        self.assertIs(type(number_of((1,), [None, None], [1, 0])), int)
        for told in (laying((2, 1), [None] * 5, 1), best((3, 1), [None] * 5), best((2, 1), [None] * 5)):
            self.assertIs(type(told), list)
            self.assertTrue(all(cell is None or type(cell) is int for cell in told))

    def test_best_tells_what_all_layings_have(self):
        self.assertEqual(best((3,), [None] * 5), [None, None, 1, None, None])
        self.assertEqual(best((2,), [None, 1, None, None, None]), [None, 1, None, 0, 0])
        self.assertEqual(best((1, 1), [None, None, 1, None, None]), [None, 0, 1, 0, None])
        self.assertEqual(best((1,), [None, None]), [None, None])


class FortyCells(unittest.TestCase):

    def check_numbers(self, runs, sight, numbers):
        former = None
        for number in sorted(numbers):
            cells = laying(runs, sight, number)
            self.assertEqual(plain_runs(cells), runs)
            self.assertTrue(agrees(sight, cells))
            self.assertEqual(number_of(runs, sight, cells), number)
            if former is not None:
                self.assertLess(former, cells)
            former = cells

    def test_many_layings(self):
        with soon():
            for runs in ((1,) * 11, (1,) * 12, (2, 1, 3, 1, 1, 2), (1,) * 20, (5, 6, 7), (3,) * 6, (40,), ()):
                many = comb(41 - sum(runs), len(runs))
                sight = [None] * 40
                self.assertEqual(layings(runs, sight), many)
                self.check_numbers(runs, sight, {number * (many - 1) // 50 for number in range(51)})
                for number in (-1, many, many + 1, 10 ** 100):
                    with self.assertRaises(NoNumber):
                        laying(runs, sight, number)

    def test_first_and_last(self):
        with soon():
            runs = (1,) * 11
            sight = [None] * 40
            last = comb(30, 11) - 1
            self.assertEqual(last + 1, 54627300)
            self.assertEqual(laying(runs, sight, 0), [0] * 19 + [1, 0] * 10 + [1])
            self.assertEqual(laying(runs, sight, last), [1, 0] * 11 + [0] * 18)
            self.assertEqual(number_of(runs, sight, [1, 0] * 11 + [0] * 18), last)
            # Where the first cell is empty, the runs lie in 39 cells, and all these go ahead.
            self.assertEqual(laying(runs, sight, comb(29, 11))[0], 1)
            self.assertEqual(laying(runs, sight, comb(29, 11) - 1), [0] + [1, 0] * 11 + [0] * 17)

    def test_a_told_cell_parts_the_line(self):
        with soon():
            for runs in ((1,) * 11, (2, 1, 3, 1, 1, 2), (7, 7, 7)):
                for place in (0, 1, 19, 20, 38, 39):
                    parted = sum(
                        comb(max(0, place + 1 - sum(runs[:cut])), cut)
                        * comb(max(0, 40 - place - sum(runs[cut:])), len(runs) - cut)
                        for cut in range(len(runs) + 1)
                    )
                    empty = [0 if cell == place else None for cell in range(40)]
                    full = [1 if cell == place else None for cell in range(40)]
                    self.assertEqual(layings(runs, empty), parted)
                    self.assertEqual(layings(runs, full), comb(41 - sum(runs), len(runs)) - parted)

    def test_lists_that_are_no_laying(self):
        with soon():
            runs = (1,) * 11
            for cells in ([1, 0] * 11 + [0] * 17, [1, 0] * 10 + [0] * 20, [1, 0] * 12 + [0] * 16, []):
                with self.assertRaises(NoLaying):
                    number_of(runs, [None] * 40, cells)
            with self.assertRaises(NoLaying):
                number_of(runs, [0] + [None] * 39, [1, 0] * 11 + [0] * 18)

    def test_best(self):
        nothing = [None] * 40
        with soon():
            self.assertEqual(best((40,), nothing), [1] * 40)
            self.assertEqual(best((), nothing), [0] * 40)
            self.assertEqual(best((1,) * 11, nothing), nothing)
            self.assertEqual(best((20, 19), nothing), [1] * 20 + [0] + [1] * 19)
            self.assertEqual(best((30,), nothing), [None] * 10 + [1] * 20 + [None] * 10)
            self.assertEqual(best((1,) * 20, [1] + [None] * 39)[:2], [1, 0])
            self.assertEqual(best((1,) * 20, [0] + [None] * 39), [0, 1] * 20)
            self.assertEqual(best((1,) * 20, [None] * 39 + [1]), [None] * 38 + [0, 1])
            around = [None] * 2 + [1] + [None] * 2
            self.assertEqual(best((3,), [None] * 20 + [1] + [None] * 19), [0] * 18 + around + [0] * 17)
            for runs, sight in (((39, 1), nothing), ((40,), [None] * 39 + [0]), ((1,) * 11, [1, 1] + [None] * 38)):
                with self.assertRaises(NoLaying):
                    best(runs, sight)

    def test_best_against_how_many_have_it(self):
        with soon(60):
            for seed in range(8):
                cells = mixed_cells(seed, 40)
                runs = plain_runs(cells)
                for hidden in ([1] * 40, [1] * 20 + [0] * 20, mixed_cells(seed + 50, 40)):
                    sight = [None if hide else cell for cell, hide in zip(cells, hidden)]
                    told = best(runs, sight)
                    for place, value in itertools.product(range(40), (0, 1)):
                        tried = sight[:place] + [value] + sight[place + 1:]
                        ruled_out = layings(runs, tried) == 0 or sight[place] == 1 - value
                        self.assertEqual(told[place] == 1 - value, ruled_out, (runs, sight, place))


if __name__ == "__main__":
    unittest.main()
