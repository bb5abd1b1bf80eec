"""Narrowing: views of a board, and what its lines tell in them."""

from runpaint.lines import best


def empty_view(board):
    return [[None] * len(board[1]) for runs in board[0]]


def narrowed(board, view):
    narrowing = Narrowing(board, view)
    narrowing.narrow()
    return narrowing.view


def steps(board, view):
    narrowing = Narrowing(board, view)
    narrowing.narrow()
    return narrowing.found


class Narrowing:

    # The view is told further cell by cell, so it is not the one that was handed in.
    def __init__(self, board, view):
        self.board = board
        self.view = [list(sight) for sight in view]
        self.found = []

    def narrow(self):
        former = -1
        while len(self.found) > former:
            former = len(self.found)
            self.go_round()

    def go_round(self):
        for number, runs in enumerate(self.board[0]):
            self.go_through("row", number, runs)
        for number, runs in enumerate(self.board[1]):
            self.go_through("column", number, runs)

    def go_through(self, kind, number, runs):
        sight = self.sight_of(kind, number)
        told = cells_told(sight, best(runs, sight))
        for place, cell in told:
            self.tell(kind, number, place, cell)
        if len(told) > 0:
            self.found.append((kind, number, told))

    def sight_of(self, kind, number):
        if kind == "row":
            return self.view[number]
        return [sight[number] for sight in self.view]

    def tell(self, kind, number, place, cell):
        if kind == "row":
            self.view[number][place] = cell
        else:
            self.view[place][number] = cell


def cells_told(sight, better):
    return [(place, better[place]) for place in range(len(sight)) if sight[place] != better[place]]
