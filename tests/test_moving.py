"""Points 3 and 5: move, promote, demote, raise."""

from tests.helper import NO_NUMBERS, BookTest

#                1      2       3        4        5       6      7       8
PLAN = ["# A", "## B", "### C", "=== d", "== e", "# F", "## G", "= h"]


class MoveTest(BookTest):
    def setUp(self):
        super().setUp()
        self.build(PLAN)

    def test_into_another_section(self):
        self.assertEqual(self.do("move", 2, 6, 0), 0)
        self.assertEqual(self.book.shape(), [(1, 1), (5, 2), (6, 1), (2, 2), (3, 3), (4, 3), (7, 2), (8, 1)])

    def test_behind_a_sibling_with_a_tree(self):
        self.assertEqual(self.do("move", 8, 1, 2), 0)
        self.assertEqual(self.book.shape(), [(1, 1), (2, 2), (3, 3), (4, 3), (8, 2), (5, 2), (6, 1), (7, 2)])

    def test_to_the_top(self):
        self.assertEqual(self.do("move", 2, 0, 0), 0)
        self.assertEqual(self.do("move", 4, 0, 8), 0)
        self.assertEqual(self.book.shape(), [(2, 1), (3, 2), (1, 1), (5, 2), (6, 1), (7, 2), (8, 1), (4, 1)])

    def test_a_section_into_a_deeper_one(self):
        self.assertEqual(self.do("move", 1, 7, 0), 0)
        self.assertEqual(self.book.shape(), [(6, 1), (7, 2), (1, 3), (2, 4), (3, 5), (4, 5), (5, 4), (8, 1)])

    def test_among_its_siblings(self):
        self.assertEqual(self.do("move", 1, 0, 6), 0)
        self.assertEqual(self.book.shape(), [(6, 1), (7, 2), (1, 1), (2, 2), (3, 3), (4, 3), (5, 2), (8, 1)])
        self.assertEqual(self.do("move", 8, 0, 0), 0)
        self.assertEqual(self.book.shape()[:3], [(8, 1), (6, 1), (7, 2)])

    def test_where_it_stands(self):
        before = self.book.state()
        self.assertEqual(self.do("move", 2, 1, 0), 0)
        self.assertEqual(self.do("move", 5, 1, 2), 0)
        self.assertEqual(self.do("move", 6, 0, 1), 0)
        self.assertEqual(self.book.state(), before)

    def test_keeps_texts_and_marks(self):
        self.do("fold", 3, 1)
        self.do("move", 2, 0, 8)
        self.assertEqual(self.book.state()[0][-3:], [(2, 1, 0, 0, "B"), (3, 2, 0, 1, "C"), (4, 2, 1, 0, "d")])
        self.assertEqual(self.book.state()[1], 9)

    def test_no_node(self):
        for number in NO_NUMBERS + (9,):
            self.refused(-1, "move", number, 0, 0)
            self.refused(-1, "move", number, number, number)

    def test_into_itself(self):
        for parent in (1, 2, 3, 4, 5):
            self.refused(-8, "move", 1, parent, 0)
            self.refused(-8, "move", 1, parent, 77)
        self.refused(-8, "move", 2, 2, 3)
        self.refused(-8, "move", 8, 8, 0)
        self.refused(-8, "move", 1, 1, 1)

    def test_behind_itself(self):
        self.refused(-2, "move", 1, 0, 1)
        self.refused(-2, "move", 2, 1, 2)
        self.refused(-2, "move", 8, 0, 8)

    def test_no_place(self):
        self.refused(-2, "move", 1, 8, 0)
        self.refused(-2, "move", 1, 6, 5)
        self.refused(-2, "move", 1, 6, 8)
        self.refused(-2, "move", 6, 1, 3)
        self.refused(-2, "move", 6, 0, 2)
        self.refused(-2, "move", 1, 0, 2)
        self.refused(-2, "move", 1, 6, 6)
        for number in NO_NUMBERS[1:]:
            self.refused(-2, "move", 1, number, 0)
            self.refused(-2, "move", 1, 0, number)
            self.refused(-2, "move", 1, 6, number)


class MoveDepthTest(BookTest):
    def setUp(self):
        super().setUp()
        self.chain(6)
        self.build(["# A", "## B", "== c", "= d"])

    def test_too_deep(self):
        self.refused(-5, "move", 7, 6, 0)
        self.refused(-5, "move", 7, 5, 0)
        self.refused(-5, "move", 8, 6, 0)
        self.refused(-5, "move", 7, 5, 6)
        self.refused(-2, "move", 7, 5, 8)

    def test_just_deep_enough(self):
        self.assertEqual(self.do("move", 7, 4, 0), 0)
        self.assertEqual(self.book.shape()[4:8], [(7, 5), (8, 6), (9, 6), (5, 5)])

    def test_cells_may_be_deeper(self):
        self.assertEqual(self.do("move", 10, 6, 0), 0)
        self.assertEqual(self.do("move", 8, 0, 0), 0)
        self.assertEqual(self.do("move", 7, 5, 6), 0)
        self.assertEqual(
            self.book.shape(),
            [(8, 1), (1, 1), (2, 2), (3, 3), (4, 4), (5, 5), (6, 6), (10, 7), (7, 6), (9, 7)])

    def test_the_same_depth_at_the_limit(self):
        self.assertEqual(self.do("section", 5, 6, "x"), 11)
        self.assertEqual(self.do("move", 6, 5, 11), 0)
        self.assertEqual(self.book.shape()[4:7], [(5, 5), (11, 6), (6, 6)])


class PromoteTest(BookTest):
    def test_right_behind_the_parent(self):
        self.build(PLAN)
        self.assertEqual(self.do("promote", 2), 0)
        self.assertEqual(self.book.shape(), [(1, 1), (5, 2), (2, 1), (3, 2), (4, 2), (6, 1), (7, 2), (8, 1)])
        self.assertEqual(self.do("promote", 4), 0)
        self.assertEqual(self.book.shape(), [(1, 1), (5, 2), (2, 1), (3, 2), (4, 1), (6, 1), (7, 2), (8, 1)])

    def test_within_a_section(self):
        self.build(PLAN)
        self.assertEqual(self.do("promote", 3), 0)
        self.assertEqual(self.book.shape()[:5], [(1, 1), (2, 2), (4, 3), (3, 2), (5, 2)])

    def test_last_child(self):
        self.build(PLAN)
        self.assertEqual(self.do("promote", 7), 0)
        self.assertEqual(self.book.shape()[-3:], [(6, 1), (7, 1), (8, 1)])
        self.assertEqual(self.do("promote", 5), 0)
        self.assertEqual(self.book.shape()[:6], [(1, 1), (2, 2), (3, 3), (4, 3), (5, 1), (6, 1)])

    def test_deepest(self):
        self.chain(6)
        self.do("cell", 6, 0, "")
        for step in range(6):
            self.assertEqual(self.do("promote", 7), 0)
        self.assertEqual(self.book.shape()[-1], (7, 1))
        self.refused(-9, "promote", 7)

    def test_refusals(self):
        self.build(PLAN)
        for number in NO_NUMBERS + (9,):
            self.refused(-1, "promote", number)
        for number in (1, 6, 8):
            self.refused(-9, "promote", number)


class DemoteTest(BookTest):
    def test_last_child_of_the_sibling_before(self):
        self.build(PLAN)
        self.assertEqual(self.do("demote", 6), 0)
        self.assertEqual(
            self.book.shape(), [(1, 1), (2, 2), (3, 3), (4, 3), (5, 2), (6, 2), (7, 3), (8, 1)])
        self.assertEqual(self.do("demote", 8), 0)
        self.assertEqual(self.book.shape()[-1], (8, 2))
        self.refused(-9, "demote", 6)

    def test_cell_behind_a_section(self):
        self.build(PLAN)
        self.assertEqual(self.do("demote", 5), 0)
        self.assertEqual(self.book.shape()[:5], [(1, 1), (2, 2), (3, 3), (4, 3), (5, 3)])
        self.assertEqual(self.do("promote", 5), 0)

    def test_empty_sibling(self):
        self.build(["# A", "# B"])
        self.assertEqual(self.do("demote", 2), 0)
        self.assertEqual(self.book.shape(), [(1, 1), (2, 2)])
        self.assertEqual(self.do("section", 1, 2, "x"), 3)

    def test_refusals(self):
        self.build(PLAN + ["# I"])
        for number in NO_NUMBERS + (10,):
            self.refused(-1, "demote", number)
        for number in (1, 2, 3, 7, 9):
            self.refused(-9, "demote", number)

    def test_first_child_of_a_later_section(self):
        self.build(["# A", "# B", "## C"])
        self.refused(-9, "demote", 3)

    def test_too_deep(self):
        self.chain(6)
        self.do("section", 5, 6, "")
        self.do("section", 4, 5, "")
        self.do("section", 8, 0, "")
        self.refused(-5, "demote", 7)
        self.refused(-5, "demote", 8)
        self.refused(-9, "demote", 9)
        self.assertEqual(self.do("drop", 9), 1)
        self.assertEqual(self.do("cell", 8, 0, ""), 10)
        self.assertEqual(self.do("demote", 8), 0)
        self.assertEqual(self.book.shape()[-2:], [(8, 6), (10, 7)])

    def test_cell_to_the_greatest_depth(self):
        self.chain(6)
        self.do("cell", 5, 6, "")
        self.assertEqual(self.do("demote", 7), 0)
        self.assertEqual(self.book.shape()[-1], (7, 7))
        self.refused(-9, "demote", 7)


class RaiseTest(BookTest):
    def test_trees_change_places(self):
        self.build(PLAN)
        self.assertEqual(self.do("raise", 6), 0)
        self.assertEqual(self.book.shape(), [(6, 1), (7, 2), (1, 1), (2, 2), (3, 3), (4, 3), (5, 2), (8, 1)])
        self.assertEqual(self.do("raise", 5), 0)
        self.assertEqual(self.book.shape()[2:7], [(1, 1), (5, 2), (2, 2), (3, 3), (4, 3)])

    def test_last_sibling(self):
        self.build(PLAN)
        self.assertEqual(self.do("raise", 8), 0)
        self.assertEqual(self.do("raise", 8), 0)
        self.assertEqual(self.book.shape()[0], (8, 1))
        self.refused(-9, "raise", 8)

    def test_cells(self):
        self.build(["= a", "= b", "= c"])
        self.assertEqual(self.do("raise", 3), 0)
        self.assertEqual(self.book.shape(), [(1, 1), (3, 1), (2, 1)])

    def test_refusals(self):
        self.build(PLAN)
        for number in NO_NUMBERS + (9,):
            self.refused(-1, "raise", number)
        for number in (1, 2, 3, 7):
            self.refused(-9, "raise", number)
