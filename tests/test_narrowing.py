"""Points 8 and 9: views and narrowing."""

import itertools
import unittest

from helper import (
    agrees, all_boards, all_sights, blank_view, chance_of, drawn_board, drawn_picture, drawn_view, mixed_picture,
    numbered_lines, pictures_by_board, plain_board, plain_narrowed, put_best, soon,
)
from runpaint.errors import NoLaying
from runpaint.narrowing import empty_view, narrowed, steps

SIZES = ((1, 1), (1, 2), (2, 1), (1, 12), (12, 1), (2, 12), (12, 2), (5, 3), (3, 5), (12, 11), (11, 12), (12, 12))


def all_views(rows, columns):
    for cells in all_sights(rows * columns):
        yield [cells[start:start + columns] for start in range(0, rows * columns, columns)]


def told_apart(view, told):
    """The view with the cells of some steps told."""
    view = [list(sight) for sight in view]
    for kind, number, pairs in told:
        for place, cell in pairs:
            if kind == "row":
                view[number][place] = cell
            else:
                view[place][number] = cell
    return view


class EmptyView(unittest.TestCase):

    def test_views_of_every_size(self):
        for rows, columns in itertools.product(range(1, 13), repeat=2):
            view = empty_view((((),) * rows, ((),) * columns))
            self.assertEqual(view, [[None] * columns for _ in range(rows)])
            self.assertIs(type(view), list)
            self.assertEqual({type(sight) for sight in view}, {list})
            self.assertEqual(len({id(sight) for sight in view}), rows)

    def test_it_hangs_on_the_size_alone(self):
        self.assertEqual(empty_view((((3,), (1, 1)), ((1,), (2,), (1,)))), [[None] * 3, [None] * 3])


class Narrowed(unittest.TestCase):

    def check(self, board, view):
        right = plain_narrowed(board, view)
        if right is None:
            with self.assertRaises(NoLaying):
                narrowed(board, view)
            with self.assertRaises(NoLaying):
                steps(board, view)
        else:
            self.assertEqual(narrowed(board, view), right[0])
            self.assertEqual(steps(board, view), right[1])
        return right

    def test_all_boards_of_two_rows_and_columns_in_all_views(self):
        seen = [self.check(board, view) for board in all_boards(2, 2) for view in all_views(2, 2)]
        self.assertTrue(any(right is None for right in seen))
        self.assertTrue(any(right and len(right[1]) > 2 for right in seen))

    def test_all_boards_of_one_row_or_one_column(self):
        for rows, columns in ((1, 1), (1, 2), (2, 1), (1, 3), (3, 1)):
            for board in all_boards(rows, columns):
                for view in all_views(rows, columns):
                    self.check(board, view)

    def test_all_boards_of_six_cells_in_views_that_tell_nothing(self):
        for rows, columns in ((2, 3), (3, 2)):
            for board in all_boards(rows, columns):
                self.check(board, blank_view(board))

    def test_boards_of_pictures(self):
        chance = chance_of(8)
        for rows, columns in SIZES:
            for of_ten in (2, 5, 6, 8):
                picture = drawn_picture(chance, rows, columns, of_ten)
                board = plain_board(picture)
                for telling in (0, 1, 5, 10):
                    self.assertIsNotNone(self.check(board, drawn_view(chance, picture, telling)))

    def test_views_that_tell_a_cell_that_no_picture_has(self):
        chance = chance_of(9)
        refused = 0
        for rows, columns in SIZES:
            for telling in (0, 3, 9):
                picture = drawn_picture(chance, rows, columns, 6)
                view = drawn_view(chance, picture, telling)
                row, column = chance.randrange(rows), chance.randrange(columns)
                view[row][column] = 1 - picture[row][column]
                refused += self.check(plain_board(picture), view) is None
        self.assertGreater(refused, 20)

    def test_boards_without_a_picture(self):
        chance = chance_of(10)
        for rows, columns in SIZES * 3:
            board = drawn_board(chance, rows, columns)
            self.check(board, blank_view(board))

    def test_written_out(self):
        board = (((2,), (1,)), ((1,), (2,)))
        blank = [[None, None], [None, None]]
        self.assertEqual(narrowed(board, blank), [[1, 1], [0, 1]])
        self.assertEqual(steps(board, blank), [
            ("row", 0, [(0, 1), (1, 1)]),
            ("column", 0, [(1, 0)]),
            ("column", 1, [(1, 1)]),
        ])

    def test_a_later_round(self):
        board = (((1,), (2,), (1,)), ((1,), (3,), ()))
        self.assertEqual(steps(board, [[None] * 3 for _ in range(3)]), [
            ("row", 1, [(1, 1)]),
            ("column", 1, [(0, 1), (2, 1)]),
            ("column", 2, [(0, 0), (1, 0), (2, 0)]),
            ("row", 0, [(0, 0)]),
            ("row", 1, [(0, 1)]),
            ("row", 2, [(0, 0)]),
        ])

    def test_what_is_not_forced_stays_not_known(self):
        board = (((1,), (1,)), ((1,), (1,)))
        self.assertEqual(narrowed(board, [[None] * 2, [None] * 2]), [[None] * 2, [None] * 2])
        self.assertEqual(steps(board, [[None] * 2, [None] * 2]), [])
        self.assertEqual(narrowed(board, [[None, None], [None, 1]]), [[1, 0], [0, 1]])
        self.assertEqual(steps(board, [[None, None], [None, 1]]), [
            ("row", 1, [(0, 0)]), ("column", 0, [(0, 1)]), ("column", 1, [(0, 0)]),
        ])

    def test_a_line_is_known_by_what_is_told_then(self):
        # The first row alone tells its middle; the column then tells the row below.
        board = (((2,), ()), ((1,), (1,), ()))
        self.assertEqual(steps(board, [[None] * 3, [None] * 3]), [
            ("row", 0, [(1, 1)]),
            ("row", 1, [(0, 0), (1, 0), (2, 0)]),
            ("column", 0, [(0, 1)]),
            ("column", 2, [(0, 0)]),
        ])

    def test_refused_in_a_row_in_a_column_and_behind_some_steps(self):
        for board, view in (
            ((((2,), ()), ((), ())), [[0, None], [None, None]]),
            ((((1,), ()), ((2,), ())), [[None, None], [None, None]]),
            ((((2,), (2,)), ((), ())), [[None, None], [None, None]]),
            ((((1,),), ((1,),)), [[0]]),
            ((((),), ((),)), [[1]]),
            ((((1,), (1,)), ((1,), (1,))), [[1, 0], [1, 0]]),
            ((((1,), (1,)), ((1,), (1,))), [[1, None], [1, None]]),
        ):
            with self.subTest(board=board, view=view):
                self.assertIsNone(self.check(board, view))

    def test_all_cells_told(self):
        for seed, (rows, columns) in enumerate(SIZES):
            picture = mixed_picture(seed, rows, columns)
            board = plain_board(picture)
            self.assertEqual(narrowed(board, picture), picture)
            self.assertEqual(steps(board, picture), [])
            picture[-1][-1] = 1 - picture[-1][-1]
            for call in (narrowed, steps):
                with self.assertRaises(NoLaying):
                    call(board, picture)

    def test_steps(self):
        chance = chance_of(11)
        for rows, columns in SIZES * 4:
            picture = drawn_picture(chance, rows, columns, 6)
            board = plain_board(picture)
            view = drawn_view(chance, picture, chance.choice((0, 2)))
            found = steps(board, view)
            self.assertIs(type(found), list)
            for step in found:
                self.assertIs(type(step), tuple)
                kind, number, pairs = step
                self.assertIn((kind, number), [line[:2] for line in numbered_lines(board)])
                self.assertIs(type(pairs), list)
                self.assertTrue(pairs)
                self.assertEqual({type(pair) for pair in pairs}, {tuple})
                places = [place for place, _ in pairs]
                self.assertEqual(places, sorted(set(places)))
            told = sum(sight.count(None) for sight in view) - sum(sight.count(None) for sight in narrowed(board, view))
            self.assertEqual(sum(len(pairs) for _, _, pairs in found), told)
            self.assertEqual(told_apart(view, found), narrowed(board, view))

    def test_narrowed_already(self):
        chance = chance_of(12)
        for rows, columns in SIZES * 4:
            board = plain_board(drawn_picture(chance, rows, columns, 5))
            view = narrowed(board, empty_view(board))
            self.assertEqual(steps(board, view), [])
            again = narrowed(board, view)
            self.assertEqual(again, view)
            self.assertIsNot(again, view)

    def test_one_list_handed_in_for_several_rows(self):
        sight = [None, None]
        self.assertEqual(narrowed((((2,), ()), ((1,), (1,))), [sight, sight]), [[1, 1], [0, 0]])
        self.assertEqual(sight, [None, None])
        first, second = narrowed((((1,), (1,)), ((1,), (1,))), [sight, sight])
        self.assertEqual([first, second], [[None, None], [None, None]])
        self.assertIsNot(first, second)

    def test_big_boards_soon(self):
        with soon():
            for seed in range(40):
                picture = mixed_picture(seed, 12, 12)
                narrowed(plain_board(picture), blank_view(plain_board(picture)))


class EveryOrder(unittest.TestCase):

    def in_drawn_order(self, chance, board, view):
        """The view that an order comes to, or None where a line has no laying."""
        view = [list(sight) for sight in view]
        lines = numbered_lines(board)
        quiet = {}
        while len(quiet) < len(lines):
            line = chance.choice(lines)
            told = put_best(view, *line)
            if told is None:
                return None
            quiet = {} if told else quiet
            quiet[line[:2]] = True
        return view

    def check(self, chance, board, view):
        try:
            right = narrowed(board, view)
        except NoLaying:
            right = None
        for _ in range(5):
            self.assertEqual(self.in_drawn_order(chance, board, view), right)
        return right

    def test_orders_come_to_the_same_view(self):
        chance = chance_of(13)
        for rows, columns in ((1, 4), (4, 1), (2, 2), (3, 4), (5, 3), (6, 6)):
            for of_ten in (3, 5, 7):
                picture = drawn_picture(chance, rows, columns, of_ten)
                board = plain_board(picture)
                for telling in (0, 2):
                    self.assertIsNotNone(self.check(chance, board, drawn_view(chance, picture, telling)))

    def test_orders_come_to_a_line_without_a_laying(self):
        chance = chance_of(14)
        refused = 0
        for _ in range(60):
            board = drawn_board(chance, chance.randrange(1, 6), chance.randrange(1, 6))
            refused += self.check(chance, board, blank_view(board)) is None
        self.assertGreater(refused, 20)

    def test_a_picture_that_fits_the_view_fits_the_narrowed_view(self):
        chance = chance_of(15)
        for rows, columns in ((2, 3), (3, 2), (3, 3), (3, 4), (4, 3)):
            boards = chance.sample(sorted(pictures_by_board(rows, columns)), 30)
            for board in boards:
                pictures = pictures_by_board(rows, columns)[board]
                for telling in (0, 2, 5):
                    view = drawn_view(chance, chance.choice(pictures), telling)
                    right = narrowed(board, view)
                    for picture in pictures:
                        before = all(map(agrees, view, picture))
                        self.assertEqual(all(map(agrees, right, picture)), before)


if __name__ == "__main__":
    unittest.main()
