"""Point 9: fold, foldFrom, reveal."""

from tests.helper import HUGE, NO_NUMBERS, BookTest

PLAN = ["# A", "## B", "### C", "==== d", "== e", "# F", "## G", "= h"]


class FoldTest(BookTest):
    def setUp(self):
        super().setUp()
        self.build(PLAN)

    def test_fold_and_unfold(self):
        self.assertEqual(self.book.marks(), {1: 0, 2: 0, 3: 0, 6: 0, 7: 0})
        self.assertEqual(self.do("fold", 2, 1), 0)
        self.assertEqual(self.do("fold", 7, 1), 0)
        self.assertEqual(self.do("fold", 2, 1), 0)
        self.assertEqual(self.book.marks(), {1: 0, 2: 1, 3: 0, 6: 0, 7: 1})
        self.assertEqual(self.do("fold", 2, 0), 0)
        self.assertEqual(self.do("fold", 1, 0), 0)
        self.assertEqual(self.book.marks(), {1: 0, 2: 0, 3: 0, 6: 0, 7: 1})

    def test_order_is_the_same(self):
        before = self.book.shape()
        self.do("fold", 1, 1)
        self.assertEqual(self.book.shape(), before)

    def test_refusals(self):
        for number in NO_NUMBERS + (9,):
            self.refused(-1, "fold", number, 1)
            self.refused(-1, "fold", number, 2)
        for number in (4, 5, 8):
            self.refused(-7, "fold", number, 1)
            self.refused(-7, "fold", number, 2)
        for mark in (-1, 2, HUGE, -HUGE):
            self.refused(-11, "fold", 1, mark)


class FoldFromTest(BookTest):
    def test_by_depth(self):
        self.build(PLAN)
        self.do("fold", 1, 1)
        self.assertEqual(self.do("foldFrom", 2), 3)
        self.assertEqual(self.book.marks(), {1: 0, 2: 1, 3: 1, 6: 0, 7: 1})
        self.assertEqual(self.do("foldFrom", 3), 1)
        self.assertEqual(self.book.marks(), {1: 0, 2: 0, 3: 1, 6: 0, 7: 0})
        self.assertEqual(self.do("foldFrom", 1), 5)
        self.assertEqual(self.do("foldFrom", 4), 0)
        self.assertEqual(self.book.marks(), {1: 0, 2: 0, 3: 0, 6: 0, 7: 0})

    def test_deepest(self):
        self.chain(6)
        self.do("cell", 6, 0, "")
        self.assertEqual(self.do("foldFrom", 6), 1)
        self.assertEqual(self.book.marks()[6], 1)
        self.assertEqual(self.do("foldFrom", 7), 0)
        self.assertEqual(self.book.marks()[6], 0)
        self.assertEqual(self.do("foldFrom", 1), 6)
        self.assertEqual(self.book.state()[0][-1], (7, 7, 1, 0, ""))

    def test_sixty(self):
        for count in range(60):
            self.do("section", 0, 0, "")
        self.assertEqual(self.do("foldFrom", 1), 60)

    def test_empty(self):
        self.assertEqual(self.do("foldFrom", 1), 0)
        self.assertEqual(self.do("foldFrom", 7), 0)

    def test_refusals(self):
        self.build(PLAN)
        self.do("foldFrom", 2)
        for depth in (0, 8, -1, HUGE, -HUGE):
            self.refused(-12, "foldFrom", depth)


class RevealTest(BookTest):
    def test_sections_around(self):
        self.build(PLAN)
        self.do("foldFrom", 1)
        self.assertEqual(self.do("reveal", 3), 2)
        self.assertEqual(self.book.marks(), {1: 0, 2: 0, 3: 1, 6: 1, 7: 1})
        self.assertEqual(self.do("reveal", 4), 1)
        self.assertEqual(self.book.marks(), {1: 0, 2: 0, 3: 0, 6: 1, 7: 1})
        self.assertEqual(self.do("reveal", 4), 0)

    def test_only_the_folded_ones_count(self):
        self.build(PLAN)
        self.do("fold", 2, 1)
        self.assertEqual(self.do("reveal", 4), 1)
        self.assertEqual(self.book.marks(), {1: 0, 2: 0, 3: 0, 6: 0, 7: 0})

    def test_siblings_before_are_not_around(self):
        self.build(PLAN)
        self.do("foldFrom", 1)
        self.assertEqual(self.do("reveal", 5), 1)
        self.assertEqual(self.book.marks(), {1: 0, 2: 1, 3: 1, 6: 1, 7: 1})

    def test_top_node(self):
        self.build(PLAN)
        self.do("foldFrom", 1)
        self.assertEqual(self.do("reveal", 6), 0)
        self.assertEqual(self.do("reveal", 8), 0)
        self.assertEqual(self.book.marks(), {1: 1, 2: 1, 3: 1, 6: 1, 7: 1})

    def test_six(self):
        self.chain(6)
        self.do("cell", 6, 0, "")
        self.do("foldFrom", 1)
        self.assertEqual(self.do("reveal", 7), 6)

    def test_no_node(self):
        self.build(PLAN)
        self.do("foldFrom", 1)
        for number in NO_NUMBERS + (9,):
            self.refused(-1, "reveal", number)
