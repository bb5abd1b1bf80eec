"""Points 6 and 7: boards and their pictures."""

import itertools
import unittest

from helper import mixed_picture, plain_runs
from runpaint.boards import board_of, fits, looked
from runpaint.errors import BadRun, TooMany, Wide


def blank(rows, columns):
    """A board of lines without runs."""
    return (((),) * rows, ((),) * columns)


def lines_with(many, place, runs):
    """Lines without runs, but one."""
    return ((),) * place + (runs,) + ((),) * (many - place - 1)


class Looked(unittest.TestCase):

    def test_how_many_rows_and_columns(self):
        for rows, columns in itertools.product(range(1, 13), repeat=2):
            told = looked(blank(rows, columns))
            self.assertEqual(told, (rows, columns))
            self.assertIs(type(told), tuple)

    def test_a_board_with_runs(self):
        self.assertEqual(looked((((2,), (1,)), ((1,), (2,)))), (2, 2))
        self.assertEqual(looked((((1, 1), (), (3,)), ((1, 1), (1,), (1, 1)))), (3, 3))

    def test_rows_and_columns_need_not_have_as_many_full_cells(self):
        self.assertEqual(looked((((2,), (2,)), ((), ()))), (2, 2))

    def test_none_and_too_many(self):
        none = ((0, 0), (0, 1), (1, 0), (0, 12), (12, 0))
        many = ((13, 1), (1, 13), (13, 12), (12, 13), (13, 13), (40, 3), (0, 13), (13, 0))
        for rows, columns in none + many:
            with self.subTest(rows=rows, columns=columns), self.assertRaises(TooMany):
                looked(blank(rows, columns))

    def test_bad_runs(self):
        for run in (0, -1, -12, -10 ** 30):
            for place, runs in itertools.product(range(3), ((run,), (1, run), (run, 1))):
                with self.subTest(place=place, runs=runs):
                    with self.assertRaises(BadRun):
                        looked((lines_with(3, place, runs), ((),) * 5))
                    with self.assertRaises(BadRun):
                        looked((((),) * 5, lines_with(3, place, runs)))

    def test_wide(self):
        for runs in ((6,), (10 ** 30,), (3, 2), (1, 1, 2), (1, 1, 1, 1), (5, 10 ** 5000), (13,)):
            for place in range(3):
                with self.subTest(length=len(runs), place=place):
                    with self.assertRaises(Wide):
                        looked((lines_with(3, place, runs), ((),) * 5))
                    with self.assertRaises(Wide):
                        looked((((),) * 5, lines_with(3, place, runs)))

    def test_just_room_and_one_cell_too_long(self):
        # Lines of 5 cells, and lines of 3, as rows and as columns.
        for many, other in ((3, 5), (5, 3), (1, 12), (12, 1), (11, 12), (12, 11), (1, 1), (12, 12)):
            for last in range(many):
                full = [(other,)] + [(1, other - 2)] * (other > 2) + [(1,) * ((other + 1) // 2)] * (other % 2)
                for runs in full:
                    longer = runs[:-1] + (runs[-1] + 1,)
                    row_board = (lines_with(many, last, runs), ((),) * other)
                    column_board = (((),) * other, lines_with(many, last, runs))
                    self.assertEqual(looked(row_board), (many, other))
                    self.assertEqual(looked(column_board), (other, many))
                    with self.assertRaises(Wide):
                        looked((lines_with(many, last, longer), ((),) * other))
                    with self.assertRaises(Wide):
                        looked((((),) * other, lines_with(many, last, longer)))

    def test_room_is_that_of_the_other_side(self):
        self.assertEqual(looked((((2, 2), (5,), ()), ((1, 1), (3,), (), (), ()))), (3, 5))
        self.assertEqual(looked((((1, 1), (3,), (), (), ()), ((2, 2), (5,), ()))), (5, 3))
        for board in (
            (((3, 2), (), ()), ((),) * 5),
            (((), (), ()), ((), (2, 1), (), (), ())),
            (((), (), ()), ((), (), (), (), (4,))),
            (((), (), (4,), (), ()), ((),) * 3),
            (((),) * 5, ((3, 2), (), ())),
        ):
            with self.subTest(board=board), self.assertRaises(Wide):
                looked(board)

    def test_too_many_goes_ahead_of_the_others(self):
        for board in (
            (((0,),) * 13, ((),)),
            (((),), ((-1,),) * 13),
            (((0,), (9,)), ((),) * 13),
            (((9,),) * 13, ((),)),
            (((9, 0),), ()),
            ((), ((1,),)),
            ((), ((0,), (50,))),
        ):
            with self.subTest(board=board), self.assertRaises(TooMany):
                looked(board)

    def test_bad_run_goes_ahead_of_wide(self):
        for board in (
            (((9,), ()), ((), (0,))),
            (((9,), (0,)), ((), ())),
            (((0,), (9,)), ((), ())),
            (((9, 0), ()), ((), ())),
            (((), ()), ((9,), (-1,))),
            (((), (-1,)), ((9,), ())),
            (((9, -20), ()), ((), ())),
            (((1, 0, 1), ()), ((), ())),
        ):
            with self.subTest(board=board), self.assertRaises(BadRun):
                looked(board)


class BoardOf(unittest.TestCase):

    def pictures(self):
        for seed, (rows, columns) in enumerate(itertools.product(range(1, 13), repeat=2)):
            yield [[0] * columns for _ in range(rows)]
            yield [[1] * columns for _ in range(rows)]
            yield mixed_picture(seed, rows, columns)

    def test_pictures_of_every_size(self):
        for picture in self.pictures():
            rows = tuple(plain_runs(row) for row in picture)
            columns = tuple(plain_runs(column) for column in zip(*picture))
            board = board_of(picture)
            self.assertEqual(board, (rows, columns))
            self.assertIs(type(board), tuple)
            self.assertEqual({type(lines) for lines in board}, {tuple})
            self.assertEqual({type(runs) for lines in board for runs in lines}, {tuple})
            self.assertEqual(looked(board), (len(picture), len(picture[0])))

    def test_written_out(self):
        self.assertEqual(board_of([[1]]), (((1,),), ((1,),)))
        self.assertEqual(board_of([[0]]), (((),), ((),)))
        self.assertEqual(board_of([[1, 1], [0, 1]]), (((2,), (1,)), ((1,), (2,))))
        self.assertEqual(board_of([[1, 0, 1, 1]]), (((1, 2),), ((1,), (), (1,), (1,))))
        self.assertEqual(board_of([[1], [0], [1], [1]]), (((1,), (), (1,), (1,)), ((1, 2),)))

    def test_somewhat_beyond_the_bounds_nothing_is_refused(self):
        self.assertEqual(board_of([[1]] * 14), (((1,),) * 14, ((14,),)))
        self.assertEqual(board_of([[1] * 14]), (((14,),), ((1,),) * 14))
        self.assertEqual(board_of([]), ((), ()))
        self.assertEqual(board_of([[], []]), (((), ()), ()))

    def test_a_picture_fits_its_own_board(self):
        for picture in self.pictures():
            self.assertIs(fits(board_of(picture), picture), True)

    def test_one_cell_that_differs(self):
        for seed, (rows, columns) in enumerate(((1, 1), (1, 12), (12, 1), (3, 5), (5, 3), (12, 11), (12, 12))):
            picture = mixed_picture(seed, rows, columns)
            board = board_of(picture)
            for row, column in itertools.product(range(rows), range(columns)):
                other = [list(cells) for cells in picture]
                other[row][column] = 1 - other[row][column]
                self.assertIs(fits(board, other), False)

    def test_the_runs_of_the_rows_but_not_of_the_columns(self):
        board = (((1,), (1,)), ((1,), (1,)))
        self.assertIs(fits(board, [[1, 0], [1, 0]]), False)
        self.assertIs(fits((((1,), (2,), ()), ((2,), (1,), ())), [[0, 0, 1], [1, 1, 0], [0, 0, 0]]), False)

    def test_the_runs_of_the_columns_but_not_of_the_rows(self):
        board = (((1,), (1,)), ((1,), (1,)))
        self.assertIs(fits(board, [[1, 1], [0, 0]]), False)

    def test_the_right_runs_in_another_order(self):
        self.assertIs(fits((((1, 2),), ((1,), (), (1,), (1,))), [[1, 1, 0, 1]]), False)
        self.assertIs(fits((((2,), (1,)), ((2,), (1,))), [[1, 0], [1, 1]]), False)

    def test_two_pictures_may_fit_one_board(self):
        board = (((1,), (1,)), ((1,), (1,)))
        self.assertIs(fits(board, [[1, 0], [0, 1]]), True)
        self.assertIs(fits(board, [[0, 1], [1, 0]]), True)

    def test_no_picture_may_fit(self):
        board = (((2,), (2,)), ((), ()))
        for cells in itertools.product((0, 1), repeat=4):
            self.assertIs(fits(board, [list(cells[:2]), list(cells[2:])]), False)


if __name__ == "__main__":
    unittest.main()
