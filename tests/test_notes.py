"""Point 12: boards written and read."""

import itertools
import re
import unittest

from helper import all_boards, chance_of, drawn_board, mixed_picture, plain_board
from runpaint.errors import BadRun, NoNote, PaintError, TooMany, Wide
from runpaint.notes import read, shown

LINE = "(?:0|[1-9][0-9]{0,2}(?: [1-9][0-9]{0,2})*)"
BOARD = re.compile(f"({LINE}(?:,{LINE})*)[|]({LINE}(?:,{LINE})*)")
SIGNS = [chr(code) for code in range(ord(" "), ord("~") + 1) if code != ord("%")]


def plain_read(text):
    """The board that a text tells, or the class of the refusal."""
    found = BOARD.fullmatch(text)
    if found is None:
        return NoNote
    rows, columns = (
        tuple(() if line == "0" else tuple(map(int, line.split())) for line in part.split(","))
        for part in found.groups()
    )
    if max(len(rows), len(columns)) > 12:
        return TooMany
    for lines, cells in ((rows, len(columns)), (columns, len(rows))):
        if any(len("0".join("1" * run for run in runs)) > cells for runs in lines):
            return Wide
    return (rows, columns)


class Shown(unittest.TestCase):

    def test_written_out(self):
        self.assertEqual(shown((((2,), (1,)), ((1,), (2,)))), "2,1|1,2")
        self.assertEqual(shown((((),), ((),))), "0|0")
        self.assertEqual(shown((((1,),), ((1,),))), "1|1")
        self.assertEqual(shown((((1, 1), ()), ((1,), (), (1,)))), "1 1,0|1,0,1")
        self.assertEqual(shown((((12,), ()), ((1,),) * 12)), "12,0|" + ",".join("1" * 12))
        self.assertEqual(shown((((1, 10),), ((1,),) + ((),) + ((1,),) * 10)), "1 10|1,0,1,1,1,1,1,1,1,1,1,1")
        self.assertEqual(shown((((1,) * 6,), ((1,), ()) * 6)), "1 1 1 1 1 1|1,0,1,0,1,0,1,0,1,0,1,0")

    def test_what_is_shown_is_read_to_the_same_board(self):
        chance = chance_of(20)
        boards = list(all_boards(2, 3)) + list(all_boards(1, 4)) + list(all_boards(3, 1))
        for rows, columns in itertools.product(range(1, 13), repeat=2):
            boards.append(drawn_board(chance, rows, columns))
            boards.append(plain_board(mixed_picture(rows * columns, rows, columns)))
            boards.append((((),) * rows, ((),) * columns))
            boards.append((((columns,),) * rows, ((rows,),) * columns))
        for board in boards:
            text = shown(board)
            self.assertIs(type(text), str)
            self.assertIsNotNone(BOARD.fullmatch(text), text)
            again = read(text)
            self.assertEqual(again, board)
            self.assertEqual(shown(again), text)


class Read(unittest.TestCase):

    def check(self, text):
        right = plain_read(text)
        if isinstance(right, tuple):
            self.assertEqual(read(text), right)
        else:
            with self.assertRaises(PaintError) as caught:
                read(text)
            self.assertIs(type(caught.exception), right, text)
        return right

    def refused(self, kind, texts):
        for text in texts:
            with self.subTest(text=text):
                self.assertIs(self.check(text), kind)

    def test_written_out(self):
        self.assertEqual(read("2,1|1,2"), (((2,), (1,)), ((1,), (2,))))
        self.assertEqual(read("0|0"), (((),), ((),)))
        self.assertEqual(read("1 1,0|1,0,1"), (((1, 1), ()), ((1,), (), (1,))))
        self.assertEqual(read("12|" + ",".join("1" * 12)), (((12,),), ((1,),) * 12))

    def test_kinds(self):
        board = read("1 1,0|1,0,1")
        self.assertEqual({type(part) for part in (board,) + board}, {tuple})
        self.assertEqual({type(runs) for part in board for runs in part}, {tuple})
        self.assertEqual({type(run) for part in board for runs in part for run in runs}, {int})

    def test_all_short_texts_of_some_signs(self):
        seen = set()
        for signs, longest in (("01 ,|", 7), ("0123,|", 5), ("19 |-", 5)):
            for length in range(longest + 1):
                for text in itertools.product(signs, repeat=length):
                    right = self.check("".join(text))
                    seen.add(right if isinstance(right, type) else "read")
        self.assertEqual(seen, {NoNote, Wide, "read"})

    def test_strokes(self):
        self.refused(NoNote, ("", "|", "0", "1", "0|", "|0", "||", "0||0", "0|0|", "|0|0", "0|0|0", "1,1", "2,1 1,2"))

    def test_empty_parts_and_lines(self):
        self.refused(NoNote, (",|0", "0|,", "0,|0", ",0|0", "0,,0|0", "0|0,", "0|,0", "0|0,,0", "1, ,1|0", " |0", "0| "))

    def test_noughts(self):
        self.refused(NoNote, (
            "1 0|0,0", "0 1|0,0", "0 0|0", "00|0", "000|0", "01|1", "1|01", "001|1", "1 01|0,0,0", "0|00", "0|0 0",
            "0000|0", "0001|1", "012|0",
        ))

    def test_blanks(self):
        self.refused(NoNote, (
            " 1|1", "1 |1", "1| 1", "1|1 ", "1  1|1,0,1", "1 1 |1,0,1", " 1 1|1,0,1", "0 |0", " 0|0", "0| 0", "0|0 ",
            "1, 1|1,1", "1 ,1|1,1", "1,1|1 ,1", "1,1|1, 1", "1   1|1,0,1", "   ", " ", "1\t1|1,0,1", "1\n1|1,0,1",
            "1|1\n", "\n1|1",
        ))

    def test_figures(self):
        for number, right in (
            ("9", Wide), ("10", Wide), ("12", "read"), ("13", Wide), ("99", Wide), ("100", Wide), ("999", Wide),
            ("1000", NoNote), ("0999", NoNote), ("9999", NoNote), ("12345678901234567890", NoNote), ("1" * 990, NoNote),
        ):
            columns = ",".join("1" * 12) if right == "read" else "1,1"
            with self.subTest(number=number):
                if right == "read":
                    self.assertEqual(self.check(f"{number}|{columns}"), (((12,),), ((1,),) * 12))
                else:
                    self.refused(right, (f"{number}|{columns}", f"{columns}|{number}", f"1 {number}|{columns}"))
        self.refused(NoNote, ("1000 1|1", "1 1000|1", "1000,1|1,1", "1,1|1000,1"))

    def test_every_other_sign(self):
        for sign in SIGNS:
            for text in (
                sign, f"{sign}|1", f"1|{sign}", f"1{sign}|1", f"{sign}1|1", f"1{sign}1|1,0,1", f"1,1{sign}1,1",
                f"1{sign}1|1,1", f"1|1{sign}", f"0{sign}|0", f"2{sign}1|1,2",
            ):
                self.check(text)
            if sign not in "0123456789 ,|":
                self.refused(NoNote, (f"{sign}|1", f"1{sign}|1", f"1{sign}1|1,0,1", f"1,1|1,{sign}", f"1|1{sign}"))

    def test_forms_that_python_takes_for_numbers(self):
        self.refused(NoNote, ("+1|1", "-1|1", "1_0|1", "1.0|1", "1e1|1", "0x1|1", "0b1|1", "1|+1", "1|1_0", "(1)|1"))
        self.refused(NoNote, ("\u0661|1", "\u00b2|1", "1|\uff11", "\u00a01|1"))

    def test_too_many(self):
        for many in (13, 14, 40):
            lines = ",".join("0" * many)
            self.refused(TooMany, (f"{lines}|0", f"0|{lines}", f"{lines}|{lines}"))
        self.assertEqual(self.check(",".join("0" * 12) + "|0"), (((),) * 12, ((),)))
        self.assertEqual(self.check("0|" + ",".join("0" * 12)), (((),), ((),) * 12))

    def test_wide(self):
        self.refused(Wide, ("2|1", "1|2", "1 1|1,1", "1,1|1 1", "3,1|1,1", "1,1|1,3", "0,2|0", "0|0,2", "1 1 1|1,0,1,0"))
        self.assertEqual(self.check("1 1|1,0,1"), (((1, 1),), ((1,), (), (1,))))
        self.assertEqual(self.check("2,0|0,2"), (((2,), ()), ((), (2,))))

    def test_no_note_goes_ahead(self):
        many = ",".join("0" * 13)
        self.refused(NoNote, (
            f"{many}|", f"{many}|x", f"{many},|0", f"00,{many}|0", f"{many}|0 ", f"0|{many},1000", f"1 0|{many}",
            "9|", "9|x", "9 0|1", "9,|1", "1|9 ", "9|00", "999|1000", f"9,{many}|1,,1",
        ))

    def test_too_many_goes_ahead_of_wide(self):
        many = ",".join("0" * 12)
        self.refused(TooMany, (f"9,{many}|0", f"{many},999|0", f"0|{many},1", f"9|{many},0", f"0|9 9,{many}"))

    def test_bad_runs_cannot_be_written(self):
        for text in ("0 0|0", "-1|0", "1 0|0,0,0", "1 -1|0"):
            with self.assertRaises(PaintError) as caught:
                read(text)
            self.assertNotIsInstance(caught.exception, BadRun)

    def test_texts_of_a_thousand_signs_and_somewhat_more(self):
        for length in (999, 1000, 1001, 1200):
            for sign in "01 ,|a~":
                self.refused(NoNote, (sign * length,))
            for start, filling, end in (
                ("", "0,", "0|0"), ("0|0", ",0", ""), ("", "1 ", "1|1"), ("1|1", " 1", ""), ("", "1,", "1|1"),
            ):
                for long_end in (end, end + "1" if end else " 1"):
                    text = start + filling * ((length - len(start) - len(long_end)) // len(filling)) + long_end
                    self.assertIn(length - len(text), (0, 1))
                    self.check(text)
        rows = ",".join("0" * 498)
        self.assertEqual(len(f"10 {rows}|0"), 1000)
        self.refused(NoNote, (f"10 {rows}|0",))
        self.assertEqual(len(f"10,{rows}|0"), 1000)
        self.refused(TooMany, (f"10,{rows}|0",))
        runs = " ".join("1" * 498)
        self.assertEqual(len(f"10 {runs}|0"), 1000)
        self.refused(Wide, (f"10 {runs}|0", f"0|10 {runs}"))


if __name__ == "__main__":
    unittest.main()
