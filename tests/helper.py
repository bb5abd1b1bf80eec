"""What several tests need: plain ways to the right answers, slow and apart from the program."""

import contextlib
import functools
import itertools
import random
import signal


def all_lines(length):
    """All lists of 0 and 1 of a length, in the order of point 4."""
    return [list(cells) for cells in itertools.product((0, 1), repeat=length)]


def all_sights(length):
    return [list(cells) for cells in itertools.product((None, 0, 1), repeat=length)]


def plain_runs(cells):
    signs = "".join(str(cell) for cell in cells)
    return tuple(len(part) for part in signs.split("0") if part)


def agrees(sight, cells):
    return len(sight) == len(cells) and all(
        told is None or told == cell for told, cell in zip(sight, cells)
    )


def plain_layings(runs, sight):
    return [
        cells for cells in all_lines(len(sight)) if plain_runs(cells) == runs and agrees(sight, cells)
    ]


def plain_best(found):
    """The best sight where these are the layings, one at least."""
    return [column[0] if len(set(column)) == 1 else None for column in zip(*found)]


@functools.lru_cache(maxsize=None)
def lines_by_runs(length):
    """A dict: to each runs that find room, all lines of this length that have them."""
    found = {}
    for cells in all_lines(length):
        found.setdefault(plain_runs(cells), []).append(cells)
    return found


def listed_layings(runs, sight):
    """The same as plain_layings, soon also where many lines of one length are asked for."""
    return [cells for cells in lines_by_runs(len(sight)).get(runs, []) if agrees(sight, cells)]


def numbered_lines(board):
    """All lines of a board: rows, then columns, the first one ahead."""
    rows, columns = board
    return (
        [("row", number, runs) for number, runs in enumerate(rows)]
        + [("column", number, runs) for number, runs in enumerate(columns)]
    )


def blank_view(board):
    return [[None] * len(board[1]) for _ in board[0]]


def cell_at(kind, number, place):
    """Row and column of a place in a line."""
    return (number, place) if kind == "row" else (place, number)


def sight_in(view, kind, number):
    return list(view[number]) if kind == "row" else [row[number] for row in view]


def put_best(view, kind, number, runs):
    """Puts the best sight of a line into the view: the pairs told, or None where there is no laying."""
    sight = sight_in(view, kind, number)
    found = listed_layings(runs, sight)
    if not found:
        return None
    better = plain_best(found)
    told = [(place, better[place]) for place in range(len(sight)) if sight[place] is None and better[place] is not None]
    for place, cell in told:
        row, column = cell_at(kind, number, place)
        view[row][column] = cell
    return told


def plain_narrowed(board, view):
    """(narrowed view, steps) as point 8 goes through the lines, or None where narrowing is refused."""
    view = [list(sight) for sight in view]
    steps = []
    while True:
        former = len(steps)
        for kind, number, runs in numbered_lines(board):
            told = put_best(view, kind, number, runs)
            if told is None:
                return None
            if told:
                steps.append((kind, number, told))
        if len(steps) == former:
            return view, steps


def plain_board(picture):
    return (
        tuple(plain_runs(row) for row in picture),
        tuple(plain_runs(column) for column in zip(*picture)),
    )


@functools.lru_cache(maxsize=None)
def pictures_by_board(rows, columns):
    """A dict: to each board of this size that has pictures, all of them."""
    found = {}
    for cells in all_lines(rows * columns):
        picture = [cells[start:start + columns] for start in range(0, rows * columns, columns)]
        found.setdefault(plain_board(picture), []).append(picture)
    return found


def all_boards(rows, columns):
    """Every board of this size that is let through."""
    for lines in itertools.product(lines_by_runs(columns), repeat=rows):
        for others in itertools.product(lines_by_runs(rows), repeat=columns):
            yield (lines, others)


def drawn_picture(chance, rows, columns, of_ten):
    """A picture with about so many full cells of ten; chance is a random.Random of a written seed."""
    return [[int(chance.randrange(10) < of_ten) for _ in range(columns)] for _ in range(rows)]


def drawn_board(chance, rows, columns):
    """A board whose rows and columns are drawn each by itself, so that it seldom has a picture."""
    return (
        tuple(chance.choice(list(lines_by_runs(columns))) for _ in range(rows)),
        tuple(chance.choice(list(lines_by_runs(rows))) for _ in range(columns)),
    )


def drawn_view(chance, picture, of_ten):
    """A view that tells about so many cells of ten of a picture."""
    return [[cell if chance.randrange(10) < of_ten else None for cell in row] for row in picture]


def chance_of(seed):
    return random.Random(seed)


def mixed_cells(seed, length):
    """A list of 0 and 1 with no plain pattern, the same each time."""
    cells = []
    state = seed * 2654435761 + 12345
    for _ in range(length):
        state = (state * 1103515245 + 12345) % 2147483648
        cells.append((state >> 16) % 2)
    return cells


def mixed_picture(seed, rows, columns):
    cells = mixed_cells(seed, rows * columns)
    return [cells[start:start + columns] for start in range(0, rows * columns, columns)]


@contextlib.contextmanager
def soon(seconds=20):
    """Fails what would go on for long, in the place of hanging."""
    def late(signum, frame):
        raise AssertionError(f"not answered within {seconds} seconds")

    former = signal.signal(signal.SIGALRM, late)
    signal.alarm(seconds)
    try:
        yield
    finally:
        signal.alarm(0)
        signal.signal(signal.SIGALRM, former)
