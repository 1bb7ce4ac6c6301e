"""Points 13 and 18: info, path, state."""

from tests.helper import NO_NUMBERS, BookTest

PLAN = ["# A", "## B", "### C", "==== d", "== e", "# F", "## G", "= h"]


class InfoTest(BookTest):
    def test_each(self):
        self.build(PLAN)
        self.do("fold", 2, 1)
        self.assertEqual([self.tell("info", number) for number in range(1, 9)], [
            [0, 1, 0, 2, 5, 0], [0, 2, 1, 1, 3, 1], [0, 3, 0, 1, 2, 2], [1, 4, 0, 0, 1, 3],
            [1, 2, 0, 0, 1, 1], [0, 1, 0, 1, 2, 0], [0, 2, 0, 0, 1, 6], [1, 1, 0, 0, 1, 0]])

    def test_after_a_move(self):
        self.build(PLAN)
        self.do("move", 2, 7, 0)
        self.assertEqual(self.tell("info", 1), [0, 1, 0, 1, 2, 0])
        self.assertEqual(self.tell("info", 2), [0, 3, 0, 1, 3, 7])
        self.assertEqual(self.tell("info", 4), [1, 5, 0, 0, 1, 3])
        self.assertEqual(self.tell("info", 6), [0, 1, 0, 1, 5, 0])

    def test_a_cell_in_a_folded_section_has_no_mark(self):
        self.build(PLAN)
        self.do("foldFrom", 1)
        self.assertEqual(self.tell("info", 5), [1, 2, 0, 0, 1, 1])
        self.assertEqual(self.tell("info", 7), [0, 2, 1, 0, 1, 6])

    def test_sixty(self):
        self.chain(6)
        for count in range(54):
            self.do("cell", 6, 0, "")
        self.assertEqual(self.tell("info", 1), [0, 1, 0, 1, 60, 0])
        self.assertEqual(self.tell("info", 6), [0, 6, 0, 54, 55, 5])
        self.assertEqual(self.tell("info", 60), [1, 7, 0, 0, 1, 6])

    def test_no_node(self):
        self.build(PLAN)
        for number in NO_NUMBERS + (9,):
            self.refused(-1, "info", number)


class PathTest(BookTest):
    def test_from_the_top(self):
        self.build(PLAN)
        self.assertEqual(self.tell("path", 1), [1, 1])
        self.assertEqual(self.tell("path", 4), [4, 1, 2, 3, 4])
        self.assertEqual(self.tell("path", 5), [2, 1, 5])
        self.assertEqual(self.tell("path", 7), [2, 6, 7])
        self.assertEqual(self.tell("path", 8), [1, 8])

    def test_after_a_wrap(self):
        self.build(PLAN)
        self.do("wrap", 2, 5, "")
        self.assertEqual(self.tell("path", 3), [4, 1, 9, 2, 3])

    def test_deepest(self):
        self.chain(6)
        self.do("cell", 6, 0, "")
        self.assertEqual(self.tell("path", 7), [7, 1, 2, 3, 4, 5, 6, 7])

    def test_no_node(self):
        self.build(PLAN)
        for number in NO_NUMBERS + (9,):
            self.refused(-1, "path", number)


class StateTest(BookTest):
    def test_new(self):
        self.assertEqual(self.tell("state"), [0, 0, 0, 1])

    def test_sections_and_cells(self):
        self.build(PLAN)
        self.assertEqual(self.tell("state"), [8, 5, 3, 9])
        self.do("drop", 2)
        self.assertEqual(self.tell("state"), [5, 3, 2, 9])
        self.do("copy", 6, 0, 0)
        self.assertEqual(self.tell("state"), [7, 5, 2, 11])
        self.do("wrap", 8, 8, "")
        self.assertEqual(self.tell("state"), [8, 6, 2, 12])

    def test_refusals_take_no_number(self):
        self.refused(-3, "cell", 0, 0, [127])
        self.refused(-2, "section", 1, 0, "")
        self.assertEqual(self.tell("state"), [0, 0, 0, 1])

    def test_used_up(self):
        self.use_up(999)
        self.do("cell", 0, 0, "")
        self.assertEqual(self.tell("state"), [1, 0, 1, 1000])
        self.refused(-6, "cell", 0, 0, "")
        self.assertEqual(self.tell("state"), [1, 0, 1, 1000])

    def test_sixty(self):
        self.chain(1)
        self.fill(60)
        self.assertEqual(self.tell("state"), [60, 1, 59, 61])
