"""Notes: boards written as texts, and read from them."""

from runpaint.boards import looked
from runpaint.errors import NoNote

FIGURES = "0123456789"
MOST_FIGURES = 3


def shown(board):
    return lines_shown(board[0]) + "|" + lines_shown(board[1])


def lines_shown(lines):
    return ",".join([runs_shown(runs) for runs in lines])


def runs_shown(runs):
    if len(runs) == 0:
        return "0"
    return " ".join([str(run) for run in runs])


def read(text):
    parts = text.split("|")
    if len(parts) != 2:
        raise NoNote("a board is written as its rows, one upright stroke, and its columns")
    board = (lines_read(parts[0]), lines_read(parts[1]))
    looked(board)
    return board


def lines_read(part):
    return tuple([runs_read(line) for line in part.split(",")])


def runs_read(line):
    if line == "0":
        return ()
    return tuple([run_read(word) for word in line.split(" ")])


def run_read(word):
    if len(word) < 1 or len(word) > MOST_FIGURES or word[0] == "0":
        raise NoNote("a run is written by one to three figures, without a nought ahead")
    if not all([sign in FIGURES for sign in word]):
        raise NoNote("a run is written by figures")
    return int(word)
