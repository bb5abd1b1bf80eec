"""Lines: their runs, and the layings of runs in a sight."""

from runpaint.errors import NoLaying, NoNumber


def runs_of(cells):
    runs = []
    length = 0
    for cell in cells:
        if cell == 1:
            length += 1
        elif length > 0:
            runs.append(length)
            length = 0
    if length > 0:
        runs.append(length)
    return tuple(runs)


def layings(runs, sight):
    return Counts(runs, sight).total()


def laying(runs, sight, number):
    counts = Counts(runs, sight)
    if number < 0 or number >= counts.total():
        raise NoNumber("no laying has this number")
    cells = []
    done = 0
    ahead = number
    while len(cells) < len(sight):
        if_empty = counts.empty_ways(len(cells), done)
        if ahead < if_empty:
            cells.append(0)
        else:
            ahead -= if_empty
            cells = cells + counts.run_cells(len(cells), done)
            done += 1
    return cells


def number_of(runs, sight, cells):
    if not is_laying(runs, sight, cells):
        raise NoLaying("the cells are no laying of the runs in the sight")
    counts = Counts(runs, sight)
    number = 0
    place = 0
    done = 0
    while place < len(cells):
        if cells[place] == 0:
            place += 1
        else:
            # All layings that are empty here, and the same before, go ahead.
            number += counts.empty_ways(place, done)
            place = counts.place_behind(place, done)
            done += 1
    return number


def is_laying(runs, sight, cells):
    if len(cells) != len(sight) or runs_of(cells) != tuple(runs):
        return False
    return all([told is None or told == cell for told, cell in zip(sight, cells)])


def best(runs, sight):
    counts = Counts(runs, sight)
    if counts.total() == 0:
        raise NoLaying("the runs have no laying in the sight")
    empty = [False] * len(sight)
    full = [False] * len(sight)
    reached = [[False] * (len(runs) + 1) for place in range(len(sight) + 1)]
    reached[0][0] = True
    for place in range(len(sight)):
        for done in range(len(runs) + 1):
            if reached[place][done] and counts.empty_ways(place, done) > 0:
                empty[place] = True
                reached[place + 1][done] = True
            if reached[place][done] and counts.full_ways(place, done) > 0:
                for step, cell in enumerate(counts.run_cells(place, done)):
                    if cell == 1:
                        full[place + step] = True
                    else:
                        empty[place + step] = True
                reached[counts.place_behind(place, done)][done + 1] = True
    return [told_by(empty[place], full[place]) for place in range(len(sight))]


def told_by(some_empty, some_full):
    if some_empty and some_full:
        return None
    return 1 if some_full else 0


class Counts:

    # ways[place][done] is how many layings the runs behind the first `done`
    # have in the cells from `place` on, the cell before `place` not being full.
    # It is filled from the end, so that no laying is gone through by itself.
    def __init__(self, runs, sight):
        self.runs = tuple(runs)
        self.sight = list(sight)
        self.ways = [[0] * (len(runs) + 1) for place in range(len(sight) + 1)]
        self.ways[len(sight)][len(runs)] = 1
        for place in range(len(sight) - 1, -1, -1):
            for done in range(len(runs) + 1):
                self.ways[place][done] = self.empty_ways(place, done) + self.full_ways(place, done)

    def total(self):
        return self.ways[0][0]

    def empty_ways(self, place, done):
        if self.sight[place] == 1:
            return 0
        return self.ways[place + 1][done]

    def full_ways(self, place, done):
        if done == len(self.runs) or not self.has_room(place, self.runs[done]):
            return 0
        return self.ways[self.place_behind(place, done)][done + 1]

    def has_room(self, place, length):
        end = place + length
        if end > len(self.sight) or 0 in self.sight[place:end]:
            return False
        return end == len(self.sight) or self.sight[end] != 1

    # A run takes the empty cell behind it along, but at the line's end there is none.
    def place_behind(self, place, done):
        return min(place + self.runs[done] + 1, len(self.sight))

    def run_cells(self, place, done):
        cells = [1] * self.runs[done]
        if place + len(cells) < len(self.sight):
            cells.append(0)
        return cells
