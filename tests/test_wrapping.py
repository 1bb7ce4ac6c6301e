"""Point 6: wrap."""

from tests.helper import NO_NUMBERS, BookTest

PLAN = ["# A", "## B", "### C", "=== d", "== e", "# F", "## G", "= h"]


class WrapTest(BookTest):
    def test_one(self):
        self.build(PLAN)
        self.assertEqual(self.do("wrap", 2, 2, "W"), 9)
        self.assertEqual(
            self.book.shape(), [(1, 1), (9, 2), (2, 3), (3, 4), (4, 4), (5, 2), (6, 1), (7, 2), (8, 1)])
        self.assertEqual(self.book.state()[0][1], (9, 2, 0, 0, "W"))

    def test_several(self):
        self.build(PLAN)
        self.assertEqual(self.do("wrap", 1, 6, ""), 9)
        self.assertEqual(
            self.book.shape(), [(9, 1), (1, 2), (2, 3), (3, 4), (4, 4), (5, 3), (6, 2), (7, 3), (8, 1)])
        self.assertEqual(self.do("wrap", 8, 8, ""), 10)
        self.assertEqual(self.do("wrap", 9, 10, ""), 11)
        self.assertEqual(self.book.shape()[:2], [(11, 1), (9, 2)])
        self.assertEqual(self.book.shape()[-2:], [(10, 2), (8, 3)])

    def test_section_and_cell(self):
        self.build(PLAN)
        self.assertEqual(self.do("wrap", 3, 4, "W"), 9)
        self.assertEqual(self.book.shape()[1:6], [(2, 2), (9, 3), (3, 4), (4, 4), (5, 2)])

    def test_folded_ones_stay_folded_and_the_new_one_is_not(self):
        self.build(["# A", "# B"])
        self.do("foldFrom", 1)
        self.do("wrap", 1, 2, "W")
        self.assertEqual(self.book.marks(), {3: 0, 1: 1, 2: 1})

    def test_no_node(self):
        self.build(PLAN)
        for number in NO_NUMBERS + (9,):
            self.refused(-1, "wrap", number, 1, "x")
            self.refused(-1, "wrap", 1, number, "x")
            self.refused(-1, "wrap", number, number, [127])

    def test_not_siblings_in_order(self):
        self.build(PLAN)
        for first, last in ((6, 1), (5, 2), (8, 1), (1, 2), (2, 1), (2, 7), (1, 7), (4, 5), (5, 7), (3, 7), (2, 4)):
            self.refused(-10, "wrap", first, last, "x")
            self.refused(-10, "wrap", first, last, [127])

    def test_not_a_text(self):
        self.build(PLAN)
        for title in ([31], [127], [65] * 61):
            self.refused(-3, "wrap", 1, 1, title)
        self.assertEqual(self.do("wrap", 1, 1, [126] * 60), 9)

    def test_sixty_nodes(self):
        self.build(PLAN)
        self.fill(59)
        self.assertEqual(self.do("wrap", 1, 1, ""), 60)
        self.refused(-4, "wrap", 1, 1, "")

    def test_too_deep(self):
        self.chain(6)
        self.do("cell", 6, 0, "")
        self.do("cell", 5, 6, "")
        for number in (1, 2, 3, 4, 5, 6, 7):
            self.refused(-5, "wrap", number, number, "x")
        self.refused(-5, "wrap", 6, 8, "x")
        self.assertEqual(self.do("wrap", 8, 8, "x"), 9)
        self.assertEqual(self.book.shape()[-2:], [(9, 6), (8, 7)])

    def test_only_the_last_is_too_deep(self):
        self.chain(6)
        self.do("section", 0, 0, "")
        self.refused(-5, "wrap", 7, 1, "x")
        self.assertEqual(self.do("wrap", 7, 7, "x"), 8)

    def test_as_deep_as_can_be(self):
        self.chain(5)
        self.do("cell", 5, 0, "")
        self.assertEqual(self.do("wrap", 1, 1, "x"), 7)
        self.assertEqual(self.book.shape()[-2:], [(5, 6), (6, 7)])

    def test_numbers_used_up(self):
        self.use_up(998)
        self.do("cell", 0, 0, "")
        self.assertEqual(self.do("wrap", 998, 998, "x"), 999)
        self.refused(-6, "wrap", 998, 998, "x")

    def test_order_of_refusals(self):
        self.use_up(994)
        top = 0
        for depth in range(6):
            top = self.do("section", top, 0, "")
        self.refused(-1, "wrap", top, 1, [127])
        self.refused(-10, "wrap", top, 994, [127])
        self.refused(-3, "wrap", 994, 994, [127])
        self.refused(-5, "wrap", 994, 994, "")
        self.do("drop", 999)
        self.refused(-6, "wrap", 994, 994, "")

    def test_full_comes_before_too_deep(self):
        self.chain(6)
        self.fill(60)
        self.refused(-10, "wrap", 2, 1, [127])
        self.refused(-3, "wrap", 1, 1, [127])
        self.refused(-4, "wrap", 1, 1, "")

    def test_full_comes_before_used_up(self):
        self.use_up(940)
        self.fill(60)
        self.assertEqual(self.book.outline.next_number, 1000)
        self.refused(-4, "wrap", 941, 940, "")
        self.do("drop", 999)
        self.refused(-6, "wrap", 941, 940, "")
