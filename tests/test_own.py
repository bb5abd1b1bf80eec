"""Point 1: nothing handed in is changed or kept, and what is told is the asker's own."""

import copy
import unittest

from runpaint import boards, judging, lines, narrowing, notes
from runpaint.errors import PaintError

SIGHT = [None, 1, None, None, 0, None, None]
SMALL = (((2,), (1,)), ((1,), (2,)))
LOOSE = (((1,), (1,), ()), ((1,), (1,)))
BARREN = (((1,), (1,)), ((1,), ()))
BLANK = [[None, None], [None, None]]
CALLS = (
    (lines.runs_of, ([1, 1, 0, 1],)),
    (lines.runs_of, ([],)),
    (lines.layings, ((2, 1), SIGHT)),
    (lines.laying, ((2, 1), SIGHT, 1)),
    (lines.laying, ((2, 1), [1, 1, 0, 1], 0)),
    (lines.laying, ((), [], 0)),
    (lines.number_of, ((2, 1), SIGHT, [0, 1, 1, 0, 0, 0, 1])),
    (lines.best, ((2, 1), SIGHT)),
    (lines.best, ((2, 1), [1, 1, 0, 1])),
    (lines.best, ((1,), [None, None])),
    (lines.best, ((), [])),
    (boards.looked, ((((2,), (1,)), ((1,), (2,))),)),
    (boards.board_of, ([[1, 1, 0], [0, 1, 1]],)),
    (boards.fits, ((((2,), (1,)), ((1,), (2,))), [[1, 1], [0, 1]])),
    (boards.fits, ((((2,), (1,)), ((1,), (2,))), [[1, 1], [1, 1]])),
    (narrowing.empty_view, (SMALL,)),
    (narrowing.empty_view, (LOOSE,)),
    (narrowing.narrowed, (SMALL, BLANK)),
    (narrowing.narrowed, (SMALL, [[1, 1], [0, 1]])),
    (narrowing.narrowed, (LOOSE, [[None, None], [None, None], [None, None]])),
    (narrowing.narrowed, (LOOSE, [[None, None], [None, None], [0, 0]])),
    (narrowing.steps, (SMALL, BLANK)),
    (narrowing.steps, (SMALL, [[1, 1], [0, 1]])),
    (narrowing.steps, (LOOSE, [[None, 1], [None, None], [None, None]])),
    (judging.judged, (SMALL,)),
    (judging.judged, (LOOSE,)),
    (judging.judged, (BARREN,)),
    (judging.judged, ((((1,),) * 3, ((1,),) * 2),)),
    (judging.judged, ((((1,),) * 12, ((1,),) * 12),)),
    (notes.shown, (SMALL,)),
    (notes.shown, (LOOSE,)),
    (notes.read, ("1 1,0|1,0,1",)),
)
REFUSED = (
    (lines.laying, ((2, 1), SIGHT, 99)),
    (lines.number_of, ((2, 1), SIGHT, [0, 1, 1, 0])),
    (lines.best, ((5, 1), SIGHT)),
    (boards.looked, ((((3,), (1,)), ((1,), (2,))),)),
    (narrowing.narrowed, (BARREN, BLANK)),
    (narrowing.narrowed, (SMALL, [[None, None], [1, None]])),
    (narrowing.steps, (BARREN, BLANK)),
    (narrowing.steps, (SMALL, [[None, None], [1, None]])),
    (notes.read, ("1 0|0",)),
    (notes.read, ("2|1",)),
)


def spoil(value):
    """Changes every list that can be reached, as an asker may."""
    if isinstance(value, (list, tuple)):
        for part in value:
            spoil(part)
    if isinstance(value, list):
        value.reverse()
        value.append("spoilt")


def lists_in(value):
    if not isinstance(value, (list, tuple)):
        return []
    found = [value] if isinstance(value, list) else []
    for part in value:
        found.extend(lists_in(part))
    return found


class Own(unittest.TestCase):

    def test_what_is_handed_in_is_as_it_was(self):
        for call, arguments in CALLS:
            with self.subTest(call=call.__name__):
                handed = copy.deepcopy(arguments)
                call(*handed)
                self.assertEqual(repr(handed), repr(arguments))

    def test_what_is_handed_in_is_as_it_was_behind_a_refusal(self):
        for call, arguments in REFUSED:
            with self.subTest(call=call.__name__):
                handed = copy.deepcopy(arguments)
                with self.assertRaises(PaintError):
                    call(*handed)
                self.assertEqual(repr(handed), repr(arguments))

    def test_what_is_told_does_not_hang_on_what_was_handed_in(self):
        for call, arguments in CALLS:
            with self.subTest(call=call.__name__):
                handed = copy.deepcopy(arguments)
                told = call(*handed)
                former = repr(told)
                spoil(handed)
                self.assertEqual(repr(told), former)
                self.assertEqual(repr(call(*copy.deepcopy(arguments))), former)

    def test_what_is_told_may_be_changed(self):
        for call, arguments in CALLS:
            with self.subTest(call=call.__name__):
                handed = copy.deepcopy(arguments)
                told = call(*handed)
                former = repr(told)
                spoil(told)
                self.assertEqual(repr(handed), repr(arguments))
                self.assertEqual(repr(call(*handed)), former)

    def test_no_two_lists_are_one(self):
        for call, arguments in CALLS:
            with self.subTest(call=call.__name__):
                handed = copy.deepcopy(arguments)
                every = lists_in(handed) + lists_in(call(*handed)) + lists_in(call(*handed))
                kept = {id(one): one for one in every}
                self.assertEqual(len(kept), len(every))


if __name__ == "__main__":
    unittest.main()
