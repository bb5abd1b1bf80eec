"""Boards: the runs of each row and of each column, and the pictures of them."""

from runpaint.errors import BadRun, TooMany, Wide
from runpaint.lines import runs_of

MOST_LINES = 12


# Each fault is looked for in the whole board before the next one is.
def looked(board):
    rows = board[0]
    columns = board[1]
    refuse_too_many(rows)
    refuse_too_many(columns)
    refuse_bad_runs(rows)
    refuse_bad_runs(columns)
    refuse_wide(rows, len(columns))
    refuse_wide(columns, len(rows))
    return (len(rows), len(columns))


def refuse_too_many(lines):
    if len(lines) < 1 or len(lines) > MOST_LINES:
        raise TooMany("a board has 1 to 12 rows and 1 to 12 columns")


def refuse_bad_runs(lines):
    for runs in lines:
        if any([run < 1 for run in runs]):
            raise BadRun("a run is below 1")


def refuse_wide(lines, cells):
    for runs in lines:
        if sum(runs) + len(runs) - 1 > cells:
            raise Wide("the runs of a line find no room in it")


def board_of(picture):
    width = len(picture[0]) if len(picture) > 0 else 0
    columns = [column_of(picture, number) for number in range(width)]
    return (runs_of_all(picture), runs_of_all(columns))


def column_of(picture, number):
    return [row[number] for row in picture]


def runs_of_all(lines):
    return tuple([runs_of(line) for line in lines])


def fits(board, picture):
    return board_of(picture) == board
