"""Point 4: drop, dissolve."""

from tests.helper import NO_NUMBERS, BookTest

PLAN = ["# A", "## B", "### C", "=== d", "== e", "# F", "## G", "= h"]


class DropTest(BookTest):
    def test_tree_is_gone(self):
        self.build(PLAN)
        self.assertEqual(self.do("drop", 2), 3)
        self.assertEqual(self.book.shape(), [(1, 1), (5, 2), (6, 1), (7, 2), (8, 1)])
        for number in (2, 3, 4):
            self.refused(-1, "drop", number)
        self.assertEqual(self.do("drop", 8), 1)
        self.assertEqual(self.do("drop", 1), 2)
        self.assertEqual(self.do("drop", 6), 2)
        self.assertEqual(self.do("order"), 0)
        self.assertEqual(self.do("cell", 0, 0, ""), 9)

    def test_sixty_at_once(self):
        self.chain(6)
        for count in range(54):
            self.do("cell", 6, 0, "")
        self.assertEqual(self.do("drop", 1), 60)
        self.assertEqual(self.book.state(), ([], 61))

    def test_no_node(self):
        self.build(PLAN)
        for number in NO_NUMBERS + (9,):
            self.refused(-1, "drop", number)


class DissolveTest(BookTest):
    def test_children_stand_in_its_place(self):
        self.build(PLAN)
        self.assertEqual(self.do("dissolve", 1), 2)
        self.assertEqual(self.book.shape(), [(2, 1), (3, 2), (4, 2), (5, 1), (6, 1), (7, 2), (8, 1)])
        self.assertEqual(self.do("dissolve", 2), 2)
        self.assertEqual(self.book.shape(), [(3, 1), (4, 1), (5, 1), (6, 1), (7, 2), (8, 1)])
        self.refused(-1, "dissolve", 1)

    def test_within_a_section(self):
        self.build(PLAN)
        self.assertEqual(self.do("dissolve", 2), 2)
        self.assertEqual(self.book.shape(), [(1, 1), (3, 2), (4, 2), (5, 2), (6, 1), (7, 2), (8, 1)])

    def test_empty_section(self):
        self.build(PLAN)
        self.assertEqual(self.do("dissolve", 7), 0)
        self.assertEqual(self.do("dissolve", 3), 0)
        self.assertEqual(self.book.shape(), [(1, 1), (2, 2), (4, 3), (5, 2), (6, 1), (8, 1)])

    def test_fifty_nine_children(self):
        self.chain(1)
        for count in range(59):
            self.do("cell", 1, 0, "")
        self.assertEqual(self.do("dissolve", 1), 59)
        self.assertEqual({depth for number, depth in self.book.shape()}, {1})

    def test_folded_section(self):
        self.build(["# A", "## B", "== c"])
        self.do("foldFrom", 1)
        self.assertEqual(self.do("dissolve", 1), 2)
        self.assertEqual(self.book.state(), ([(2, 1, 0, 1, "B"), (3, 1, 1, 0, "c")], 4))

    def test_refusals(self):
        self.build(PLAN)
        for number in NO_NUMBERS + (9,):
            self.refused(-1, "dissolve", number)
        for number in (4, 5, 8):
            self.refused(-7, "dissolve", number)
