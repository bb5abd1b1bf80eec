"""Points 10 and 11: judging boards, and the trees that show it."""

import itertools
import unittest

from helper import (
    all_boards, blank_view, chance_of, drawn_board, drawn_picture, lines_by_runs, listed_layings, pictures_by_board,
    plain_board, plain_narrowed, sight_in, soon,
)
from runpaint.judging import judged

ONE = (1,)


def crowded(many):
    """One full cell in each row, but a column too few: lines tell nothing, and there is no picture."""
    return ((ONE,) * many, (ONE,) * (many - 1))


class Walk:
    """Walks a tree from the view in which nothing is told, and holds it to point 10."""

    def __init__(self, test, board):
        self.test = test
        self.board = board
        self.view = blank_view(board)
        self.pictures = []

    def go(self, tree):
        self.test.assertIs(type(tree), tuple)
        if tree[0] == "shut":
            self.shut(tree)
        elif tree[0] == "picture":
            self.picture(tree)
        else:
            self.tried(tree)

    def shut(self, tree):
        _, kind, number = tree
        self.test.assertIn(kind, ("row", "column"))
        lines = self.board[0] if kind == "row" else self.board[1]
        self.test.assertIs(type(number), int)
        self.test.assertIn(number, range(len(lines)))
        self.test.assertEqual(listed_layings(lines[number], sight_in(self.view, kind, number)), [])

    def picture(self, tree):
        self.test.assertEqual(tree, ("picture",))
        self.test.assertFalse(any(None in sight for sight in self.view))
        self.test.assertEqual(plain_board(self.view), self.board)
        self.pictures.append([list(sight) for sight in self.view])

    def tried(self, tree):
        name, row, column, first, second = tree
        self.test.assertEqual(name, "try")
        self.test.assertEqual({type(row), type(column)}, {int})
        self.test.assertIn(row, range(len(self.board[0])))
        self.test.assertIn(column, range(len(self.board[1])))
        self.test.assertIsNone(self.view[row][column])
        for cell, branch in ((0, first), (1, second)):
            self.view[row][column] = cell
            self.go(branch)
        self.view[row][column] = None


def tree_size(tree):
    return 1 + tree_size(tree[3]) + tree_size(tree[4]) if tree[0] == "try" else 1


class Judged(unittest.TestCase):

    def check(self, board):
        """Holds a judgement to points 10 and 11, and gives it."""
        told = judged(board)
        self.assertIs(type(told), tuple)
        if told[0] == "several":
            _, one, other = told
            self.check_picture(board, one)
            self.check_picture(board, other)
            self.assertNotEqual(one, other)
            return told
        walk = Walk(self, board)
        walk.go(told[-1])
        if told[0] == "one":
            _, picture, _ = told
            self.check_picture(board, picture)
            self.assertEqual(walk.pictures, [picture])
        else:
            name, _ = told
            self.assertEqual(name, "none")
            self.assertEqual(walk.pictures, [])
        return told

    def check_picture(self, board, picture):
        self.assertIs(type(picture), list)
        self.assertEqual({type(row) for row in picture}, {list})
        self.assertEqual({type(cell) for row in picture for cell in row}, {int})
        self.assertEqual(plain_board(picture), board)

    def check_against(self, board, pictures):
        told = self.check(board)
        self.assertEqual(told[0], ("none", "one", "several")[min(2, len(pictures))])
        for picture in told[1:]:
            if isinstance(picture, list):
                self.assertIn(picture, pictures)
        return told[0]

    def test_all_small_boards_against_all_pictures(self):
        for rows, columns in ((1, 1), (1, 2), (2, 1), (1, 3), (3, 1), (2, 2), (2, 3), (3, 2), (3, 3)):
            seen = {
                self.check_against(board, pictures_by_board(rows, columns).get(board, []))
                for board in all_boards(rows, columns)
            }
            self.assertEqual(seen, {"one", "none", "several"} if min(rows, columns) > 1 else {"one", "none"})

    def test_boards_of_all_pictures_of_some_sizes(self):
        for rows, columns in ((1, 9), (9, 1), (2, 5), (5, 2), (3, 4), (4, 3)):
            for board, pictures in pictures_by_board(rows, columns).items():
                self.check_against(board, pictures)

    def test_drawn_boards_against_all_pictures(self):
        chance = chance_of(10)
        for rows, columns in ((4, 4), (3, 5), (5, 3), (2, 7), (7, 2)):
            known = pictures_by_board(rows, columns)
            boards = chance.sample(sorted(known), 150)
            boards += [drawn_board(chance, rows, columns) for _ in range(150)]
            for board in boards:
                self.check_against(board, known.get(board, []))

    def test_one_line_changed_so_that_few_boards_have_pictures(self):
        chance = chance_of(11)
        seen = set()
        for _ in range(300):
            rows, columns = plain_board(drawn_picture(chance, 4, 4, chance.choice((2, 3, 4))))
            row = chance.randrange(4)
            board = (rows[:row] + (chance.choice(list(lines_by_runs(4))),) + rows[row + 1:], columns)
            seen.add(self.check_against(board, pictures_by_board(4, 4).get(board, [])))
        self.assertEqual(seen, {"one", "none", "several"})

    def test_one_written_out(self):
        name, picture, tree = self.check((((2,), (1,)), ((1,), (2,))))
        self.assertEqual((name, picture), ("one", [[1, 1], [0, 1]]))
        self.assertEqual(tree_size(tree), 9)

    def test_the_smallest_boards(self):
        self.assertEqual(judged((((),), ((),)))[:2], ("one", [[0]]))
        self.assertEqual(judged((((1,),), ((1,),)))[:2], ("one", [[1]]))
        self.assertEqual(self.check((((1,),), ((),)))[0], "none")
        self.assertEqual(self.check((((),), ((1,),)))[0], "none")

    def test_several_written_out(self):
        name, one, other = self.check(((ONE, ONE), (ONE, ONE)))
        self.assertEqual(name, "several")
        self.assertEqual(sorted([one, other]), [[[0, 1], [1, 0]], [[1, 0], [0, 1]]])

    def test_several_where_the_same_is_left_open_twice(self):
        for board in (
            (((1, 1), (1,), (1, 1), (1,)), ((1,), (1,), (), (1, 1), (2,))),
            (((1,), (1,), (), (2,), (1,), (1,), (1,)), ((2,), (1, 1), (1, 1, 1))),
            (((1, 1), (1, 1), (), (2,), (1,), (1, 1)), ((1, 1), (1, 1), (1, 2), (1, 1))),
            (((2,), (1,), (), (), (2,), (1, 1)), ((1,), (1, 1), (1, 1), (1, 1), ())),
            (((1,), (1, 2), (1, 2), (1,), (2, 1)), ((2, 1), (1, 1), (), (), (2,), (2,), (1, 1))),
        ):
            self.assertEqual(self.check(board)[0], "several")

    def test_all_lines_empty_and_all_full(self):
        for rows, columns in itertools.product((1, 2, 11, 12), repeat=2):
            told = self.check((((),) * rows, ((),) * columns))
            self.assertEqual(told[:2], ("one", [[0] * columns for _ in range(rows)]))
            told = self.check((((columns,),) * rows, ((rows,),) * columns))
            self.assertEqual(told[:2], ("one", [[1] * columns for _ in range(rows)]))
            self.assertEqual(self.check((((columns,),) * rows, ((),) * columns))[0], "none")

    def test_one_where_narrowing_tells_no_cell(self):
        for board in (
            (((1,), (1, 1), (3,), (1,), (2,), (3,)), ((2,), (1,), (3,), (2,), (2, 1), (1,))),
            (((2,), (2, 1), (3,), (1,), (2,), (1, 1)), ((2,), (2, 1), (2,), (1, 2), (1,), (1, 1))),
            (
                ((1,), (1, 2), (1, 1, 1), (2,), (3,), (1, 3), (3, 1), (2, 2)),
                ((3,), (2,), (1,), (4,), (1, 2, 1), (2, 2), (1, 1, 1), (1, 1, 1)),
            ),
        ):
            self.assertEqual(plain_narrowed(board, blank_view(board)), (blank_view(board), []))
            self.assertEqual(self.check(board)[0], "one")

    def test_boards_of_twelve(self):
        chance = chance_of(12)
        seen = set()
        with soon(60):
            for rows, columns in ((12, 12), (1, 12), (12, 1), (2, 12), (12, 2), (12, 7), (7, 12)):
                for of_ten in (1, 3, 4, 5, 6, 7, 9):
                    board = plain_board(drawn_picture(chance, rows, columns, of_ten))
                    seen.add(self.check(board)[0])
                    seen.add(self.check((board[0], board[1][1:] + board[1][:1]))[0] if of_ten > 4 else "none")
        self.assertEqual(seen, {"one", "none", "several"})

    def test_boards_that_no_line_shuts(self):
        for many in range(2, 8):
            rows, columns = crowded(many)
            self.assertEqual(self.check((rows, columns))[0], "none")
            self.assertEqual(self.check((columns, rows))[0], "none")
            self.assertEqual(self.check((rows, columns + ((),)))[0], "none")

    def test_boards_that_need_trees_too_big_to_be_gone_through(self):
        with soon(60):
            for many in (10, 12):
                rows, columns = crowded(many)
                self.assertEqual(judged((rows, columns))[0], "none")
                self.assertEqual(judged((columns, rows))[0], "none")

    def test_many_pictures(self):
        with soon():
            for runs in ((1,), (1, 1), (1, 1, 1), (2, 1), (2, 2)):
                self.assertEqual(self.check(((runs,) * 12, (runs,) * 12))[0], "several")


if __name__ == "__main__":
    unittest.main()
