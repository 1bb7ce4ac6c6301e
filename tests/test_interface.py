"""Point 10 (order), and the interface: how calls are read and answers given back, over the whole program."""

import unittest

from outlinebook.calls import read_calls
from outlinebook.outline import answers
from tests.helper import HUGE, NUMBERS, BookTest, row_of, split_answers, written

# Each call once, with its whole numbers and its row as the interface writes them.
EVERY_CALL = (
    ("section", [5, -HUGE], [7, 8]), ("cell", [1, 2], []), ("write", [HUGE], [1] * 200), ("move", [1, 2, 3], None),
    ("drop", [4], None), ("dissolve", [5], None), ("promote", [6], None), ("demote", [7], None),
    ("wrap", [8, 9], [31]), ("raise", [9], None), ("sort", [0], None), ("copy", [3, 2, 1], None),
    ("fold", [1, 0], None), ("foldFrom", [7], None), ("reveal", [15], None), ("order", [], None),
    ("view", [], None), ("label", [17], None), ("find", [], [49, -1, 300]), ("text", [19], None),
    ("shown", [20], None), ("contents", [3], None), ("info", [22], None), ("path", [23], None),
    ("references", [24], None), ("referring", [25], None), ("broken", [], None), ("search", [], []),
    ("step", [28, -1], None), ("save", [], None), ("load", [], [10] * 10000), ("state", [], None),
)


class OrderTest(BookTest):
    def test_empty(self):
        self.assertEqual(self.do("order"), 0)
        self.assertEqual(answers([15]), [1, 0])

    def test_reading_order(self):
        self.build(["# A", "## B", "=== c", "= d", "# E", "== f"])
        self.do("foldFrom", 1)
        self.assertEqual(self.do("order"), [6, 1, 1, 2, 2, 3, 3, 4, 1, 5, 1, 6, 2])

    def test_sixty_nodes(self):
        self.chain(6)
        for count in range(54):
            self.do("cell", 6, 0, "")
        told = self.do("order")
        self.assertEqual(told[0], 60)
        self.assertEqual(len(told), 121)
        self.assertEqual(told[-2:], [7, 7])

    def test_changes_nothing(self):
        self.build(["# A", "== b"])
        before = self.book.state()
        self.assertEqual(self.do("order"), self.do("order"))
        self.assertEqual(self.book.state(), before)


class ReadCallsTest(unittest.TestCase):
    def test_every_shape(self):
        for name, wholes, row in EVERY_CALL:
            numbers = written(name, *wholes, *([] if row is None else [row]))
            calls = read_calls(numbers)
            self.assertEqual([(call.name, call.wholes, call.row) for call in calls], [(name, wholes, row or [])])

    def test_one_behind_another(self):
        for calls in (EVERY_CALL, EVERY_CALL[::-1]):
            numbers = []
            for name, wholes, row in calls:
                numbers += written(name, *wholes, *([] if row is None else [row]))
            self.assertEqual(
                [(call.name, call.wholes, call.row) for call in read_calls(numbers)],
                [(name, wholes, row or []) for name, wholes, row in calls])


class AnswersTest(unittest.TestCase):
    def test_as_written_in_the_document(self):
        calls = [0, 0, 0, 1, 65, 1, 1, 0, 2, 64, 49, 11, 1, 1, 0, 4, 99, 15]
        self.assertEqual(answers(calls), [1, 1, 1, 2, 1, 3, 1, -1, 9, 4, 1, 1, 3, 2, 4, 3, 2, 2])

    def test_a_refusal_stands_alone(self):
        self.assertEqual(answers(written("drop", 1)), [1, -1])
        self.assertEqual(answers(written("cell", 0, 0, [0])), [1, -3])

    def test_rows_that_look_like_calls(self):
        calls = written("cell", 0, 0, [15, 15, 15]) + written("cell", 15, 15, []) + written("order")
        self.assertEqual(split_answers(answers(calls)), [[-3], [-2], [0]])

    def test_rows_of_two_hundred(self):
        calls = written("section", 0, 0, [HUGE] * 200) + written("cell", 0, 0, "x") + written("order")
        self.assertEqual(split_answers(answers(calls)), [[-3], [1], [1, 1, 1]])

    def test_the_list_is_not_changed(self):
        calls = (
            written("section", 0, 0, "b") + written("cell", 1, 0, "@1") + written("copy", 1, 1, 0)
            + written("write", 2, "other") + written("sort", 0) + written("wrap", 1, 1, "w") + written("order"))
        handed = list(calls)
        answers(handed)
        self.assertEqual(handed, calls)

    def test_begins_anew(self):
        calls = written("section", 0, 0, "b") + written("cell", 1, 0, "@1") + written("order")
        first = answers(calls)
        self.assertEqual(answers(calls), first)
        self.assertEqual(answers(written("order")), [1, 0])
        self.assertEqual(answers(calls), first)

    def test_answers_of_one_time_are_not_those_of_another(self):
        first = answers([15])
        first.append(7)
        self.assertEqual(answers([15]), [1, 0])

    def test_plain_numbers(self):
        calls = (
            written("section", 0, 0, "b") + written("fold", 1, 1) + written("foldFrom", 1) + written("reveal", 1)
            + written("cell", 1, 0, "") + written("reveal", 2) + written("sort", 0) + written("order"))
        told = answers(calls)
        self.assertEqual({kind for kind in map(type, told)}, {int})
        self.assertEqual(type(told), list)

    def test_two_hundred_calls(self):
        calls = []
        for count in range(200):
            calls += written("cell", 0, 0, "x")
        self.assertEqual(
            split_answers(answers(calls)), [[number] for number in range(1, 61)] + [[-4]] * 140)


class WholeProgramTest(unittest.TestCase):
    """Every call, with ordinary arguments and with wrong ones, on an outline of each kind."""

    OUTLINES = (
        "outline 1\n", "outline 1000\n", "outline 8\n# 1 - A @7\n## 2 + B @@\n=== 3 c @9\n= 7 @1\n",
        "outline 1000\n" + "".join(f"{'#' * min(depth, 6)} {depth} + {'@6' * 30}\n" for depth in range(1, 61)))
    WHOLES = (0, 1, 2, 7, -1, 60, 1000, HUGE, -HUGE)
    ROWS = ("", "A", "1.1", "outline 3\n# 1 + x\n", [HUGE] * 200, [-HUGE, 0, 255, 256], [64] * 60)

    def calls_of(self, name, wholes, row, outline):
        """Lists of calls: the outline is loaded, then the call is made with many arguments, then all is told."""
        rows = [[]] if row is None else [[row_of(other)] for other in self.ROWS]
        for first in self.WHOLES:
            calls = written("load", outline)
            for second in self.WHOLES[:4] + (-HUGE,) if len(wholes) > 1 else (0,):
                for other in rows:
                    calls += written(name, *[first, second, first][:len(wholes)], *other)
            yield calls + written("save") + written("state")

    def test_no_call_raises_and_nothing_is_kept(self):
        for name, wholes, row in EVERY_CALL:
            for outline in self.OUTLINES:
                for calls in self.calls_of(name, wholes, row, outline):
                    handed = list(calls)
                    told = answers(handed)
                    self.assertEqual(handed, calls)
                    self.assertEqual(answers(handed), told)
                    self.check_answers(read_calls(calls), split_answers(told))

    def check_answers(self, calls, told):
        self.assertEqual(len(told), len(calls))
        for answer in told:
            self.assertEqual({type(number) for number in answer}, {int})
            self.assertTrue(len(answer) == 1 if answer[0] < 0 else min(answer) >= 0, answer)
            self.assertGreaterEqual(answer[0], -16)

    def test_every_call_is_there(self):
        self.assertEqual([name for name, wholes, row in EVERY_CALL], sorted(NUMBERS, key=NUMBERS.get))

    def test_one_list_with_every_call(self):
        calls = []
        for name, wholes, row in EVERY_CALL:
            calls += written(name, *wholes, *([] if row is None else [row]))
        told = split_answers(answers(calls))
        self.assertEqual(told, [
            [-2], [-2], [-1], [-1], [-1], [-1], [-1], [-1], [-1], [-1], [0], [-1], [-1], [0], [-1], [0],
            [0], [-1], [-13], [-1], [-1], [0], [-1], [-1], [-1], [-1], [0], [0], [-1],
            [10] + row_of("outline 1\n"), [2, 0], [0, 0, 0, 1]])

    def test_two_hundred_long_answers(self):
        text = "outline 1000\n"
        for number in range(1, 61):
            text += "#" * ((number + 9) // 10) + f" {number} + {'@60' * 20}\n"
        told = split_answers(answers(written("load", text) + written("contents", 7) * 199))
        self.assertEqual(told[0], [0])
        self.assertEqual(told[1:], [told[1]] * 199)
        self.assertLessEqual(len(told[1]), 50000)
