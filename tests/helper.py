"""What several tests need: plain ways to the right answers, slow and apart from the program."""

import contextlib
import itertools
import signal


def all_lines(length):
    """All lists of 0 and 1 of a length, in the order of point 4."""
    return [list(cells) for cells in itertools.product((0, 1), repeat=length)]


def all_sights(length):
    return [list(cells) for cells in itertools.product((None, 0, 1), repeat=length)]


def plain_runs(cells):
    signs = "".join(str(cell) for cell in cells)
    return tuple(len(part) for part in signs.split("0") if part)


def agrees(sight, cells):
    return len(sight) == len(cells) and all(
        told is None or told == cell for told, cell in zip(sight, cells)
    )


def plain_layings(runs, sight):
    return [
        cells for cells in all_lines(len(sight)) if plain_runs(cells) == runs and agrees(sight, cells)
    ]


def plain_best(found):
    """The best sight where these are the layings, one at least."""
    return [column[0] if len(set(column)) == 1 else None for column in zip(*found)]


def mixed_cells(seed, length):
    """A list of 0 and 1 with no plain pattern, the same each time."""
    cells = []
    state = seed * 2654435761 + 12345
    for _ in range(length):
        state = (state * 1103515245 + 12345) % 2147483648
        cells.append((state >> 16) % 2)
    return cells


def mixed_picture(seed, rows, columns):
    cells = mixed_cells(seed, rows * columns)
    return [cells[start:start + columns] for start in range(0, rows * columns, columns)]


@contextlib.contextmanager
def soon(seconds=20):
    """Fails what would go on for long, in the place of hanging."""
    def late(signum, frame):
        raise AssertionError(f"not answered within {seconds} seconds")

    former = signal.signal(signal.SIGALRM, late)
    signal.alarm(seconds)
    try:
        yield
    finally:
        signal.alarm(0)
        signal.signal(signal.SIGALRM, former)
