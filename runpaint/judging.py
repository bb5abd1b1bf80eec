"""Judging: whether one picture fits a board, or none, or several, and the tree that shows it."""


def judged(board):
    search = Search(board)
    tree = search.whole_tree()
    if len(search.pictures) == 0:
        return ("none", tree)
    if len(search.pictures) == 1:
        return ("one", search.pictures[0], tree)
    return ("several", search.pictures[0], search.pictures[1])


# Here the cells of a line are the bits of one number, the first cell the lowest
# one: a search looks at its lines many thousand times.
def packed_layings(runs, length):
    if len(runs) == 0:
        return [0]
    behind = runs[1:]
    found = []
    for start in range(length - sum(runs) - len(behind) + 1):
        end = start + runs[0]
        block = (1 << end) - (1 << start)
        rests = packed_layings(behind, length - end - 1)
        found.extend([block | (rest << (end + 1)) for rest in rests])
    return found


def unpacked(cells, length):
    return [(cells >> place) & 1 for place in range(length)]


# A cell that a line forces is a try too, one branch of which this line shuts at once.
def with_forced(forced, inner):
    tree = inner
    for row, column, value, shut in reversed(forced):
        if value == 0:
            tree = ("try", row, column, tree, shut)
        else:
            tree = ("try", row, column, shut, tree)
    return tree


class Line:

    # A line of 12 cells has at most 126 layings, so that they can be listed.
    def __init__(self, kind, number, runs, length):
        self.shut = ("shut", kind, number)
        self.length = length
        self.choices = packed_layings(runs, length)
        self.known = {}
        self.rests = {}

    # None where no laying is left. Else a tuple of the cells that are forced and
    # not told yet, and of a number for what is left open: it is the same where
    # the same cells are open and have the same layings.
    def seen(self, full, empty):
        marks = (full, empty)
        if marks not in self.known:
            self.known[marks] = self.reckoned(full, empty)
        return self.known[marks]

    def reckoned(self, full, empty):
        left = [cells for cells in self.choices if (cells & full) == full and (cells & empty) == 0]
        if len(left) == 0:
            return None
        always = left[0]
        ever = left[0]
        for cells in left:
            always = always & cells
            ever = ever | cells
        loose = ever - always
        passed = loose | full | empty
        forced = [(place, (always >> place) & 1) for place in range(self.length) if (passed >> place) & 1 == 0]
        rest = (loose, tuple([cells & loose for cells in left]))
        return (tuple(forced), self.rests.setdefault(rest, len(self.rests)))


class Told:

    # Each cell stands in two of the lines, its row and its column; the rows go ahead of the columns.
    def __init__(self, rows, full, empty):
        self.rows = rows
        self.full = list(full)
        self.empty = list(empty)

    def tell(self, row, column, value):
        marks = self.full if value == 1 else self.empty
        marks[row] = marks[row] | (1 << column)
        marks[self.rows + column] = marks[self.rows + column] | (1 << row)

    def twin_with(self, row, column, value):
        twin = Told(self.rows, self.full, self.empty)
        twin.tell(row, column, value)
        return twin

    def first_open(self, columns):
        for row in range(self.rows):
            marks = self.full[row] | self.empty[row]
            for column in range(columns):
                if (marks >> column) & 1 == 0:
                    return (row, column)
        return None

    def picture(self, columns):
        return [unpacked(marks, columns) for marks in self.full[:self.rows]]


class Search:

    def __init__(self, board):
        self.rows = len(board[0])
        self.columns = len(board[1])
        self.lines = [Line("row", number, runs, self.columns) for number, runs in enumerate(board[0])]
        self.lines.extend([Line("column", number, runs, self.rows) for number, runs in enumerate(board[1])])
        self.pictures = []
        self.barren = {}

    def whole_tree(self):
        blank = [0] * len(self.lines)
        return self.tree(Told(self.rows, blank, blank), list(range(len(self.lines))))

    # The search ends with a second picture; the tree is not whole then, and nobody asks for it.
    def tree(self, told, changed):
        forced = []
        shut = self.narrow(told, changed, forced)
        inner = self.open_tree(told) if shut is None else shut
        return with_forced(forced, inner)

    # Where each line has the same left open as at some place before, the tree of
    # that place holds here too and is not built again: boards of few runs may need
    # trees of many millions of leaves.
    def open_tree(self, told):
        cell = told.first_open(self.columns)
        if cell is None:
            self.pictures.append(told.picture(self.columns))
            return ("picture",)
        rests = self.rests_of(told)
        if rests in self.barren:
            return self.barren[rests]
        row = cell[0]
        column = cell[1]
        crossed = [row, self.rows + column]
        former = len(self.pictures)
        second = self.tree(told.twin_with(row, column, 1), crossed)
        if len(self.pictures) > 1:
            return second
        first = self.tree(told.twin_with(row, column, 0), crossed)
        tree = ("try", row, column, first, second)
        if len(self.pictures) == former:
            self.barren[rests] = tree
        return tree

    # Gives the leaf of a line that has no laying, or None; what is told by the way is put into `forced`.
    def narrow(self, told, changed, forced):
        waiting = list(changed)
        while len(waiting) > 0:
            number = waiting.pop(0)
            line = self.lines[number]
            seen = line.seen(told.full[number], told.empty[number])
            if seen is None:
                return line.shut
            for place, value in seen[0]:
                row = number if number < self.rows else place
                column = place if number < self.rows else number - self.rows
                told.tell(row, column, value)
                forced.append((row, column, value, line.shut))
                other = self.rows + column if number < self.rows else row
                if other not in waiting:
                    waiting.append(other)
        return None

    def rests_of(self, told):
        return tuple([
            line.seen(full, empty)[1] for line, full, empty in zip(self.lines, told.full, told.empty)
        ])
