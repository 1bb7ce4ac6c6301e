"""Points 1 and 2: section, cell, write."""

from tests.helper import HUGE, NO_NUMBERS, BookTest

NOT_TEXTS = ([31], [127], [65, 10], [0], [-1], [256], [HUGE], [-HUGE], [32] * 61, [65] * 200, [65] * 59 + [127])
TEXTS = ([], [32], [126], [32] * 60, [126] * 60, list(range(32, 92)), list(range(67, 127)))


class AddTest(BookTest):
    def test_numbers_and_places(self):
        self.assertEqual(self.do("section", 0, 0, "A"), 1)
        self.assertEqual(self.do("cell", 0, 0, "first"), 2)
        self.assertEqual(self.do("cell", 0, 1, "last"), 3)
        self.assertEqual(self.do("section", 1, 0, "B"), 4)
        self.assertEqual(self.do("cell", 1, 4, "behind B"), 5)
        self.assertEqual(self.do("section", 1, 0, "before B"), 6)
        self.assertEqual(self.do("cell", 4, 0, "in B"), 7)
        self.assertEqual(self.do("section", 1, 4, "behind B's tree"), 8)
        self.assertEqual(
            self.book.state(),
            ([(2, 1, 1, 0, "first"), (1, 1, 0, 0, "A"), (6, 2, 0, 0, "before B"), (4, 2, 0, 0, "B"),
              (7, 3, 1, 0, "in B"), (8, 2, 0, 0, "behind B's tree"), (5, 2, 1, 0, "behind B"),
              (3, 1, 1, 0, "last")], 9))
        self.assertEqual(self.book.shape(), [(2, 1), (1, 1), (6, 2), (4, 2), (7, 3), (8, 2), (5, 2), (3, 1)])

    def test_no_such_place(self):
        self.build(["# A", "## B", "= c", "# D", "## E"])
        for name in ("section", "cell"):
            for number in NO_NUMBERS[1:] + (6,):
                self.refused(-2, name, number, 0, "x")
                self.refused(-2, name, 0, number, "x")
                self.refused(-2, name, 1, number, "x")
            self.refused(-2, name, 3, 0, "x")
            self.refused(-2, name, 3, 3, "x")
            self.refused(-2, name, 0, 2, "x")
            self.refused(-2, name, 1, 1, "x")
            self.refused(-2, name, 1, 5, "x")
            self.refused(-2, name, 4, 2, "x")
            self.refused(-2, name, 2, 4, "x")

    def test_deeper_node_is_no_sibling(self):
        self.build(["# A", "## B", "### C"])
        self.refused(-2, "cell", 1, 3, "x")
        self.assertEqual(self.do("cell", 1, 2, "x"), 4)
        self.assertEqual(self.book.shape(), [(1, 1), (2, 2), (3, 3), (4, 2)])

    def test_texts(self):
        for row in TEXTS:
            self.assertGreater(self.do("section", 0, 0, row), 0)
            self.assertGreater(self.do("cell", 0, 0, row), 0)
        self.assertEqual([len(text) for text in self.book.texts().values()][-2:], [0, 0])
        self.assertEqual(self.book.texts()[9], "~" * 60)

    def test_not_texts(self):
        for row in NOT_TEXTS:
            self.refused(-3, "section", 0, 0, row)
            self.refused(-3, "cell", 0, 0, row)
        self.assertEqual(self.do("cell", 0, 0, ""), 1)

    def test_sixty_nodes(self):
        self.chain(1)
        self.fill(59)
        self.assertEqual(self.do("cell", 1, 0, "sixtieth"), 60)
        self.refused(-4, "section", 0, 0, "x")
        self.refused(-4, "cell", 1, 0, "x")
        self.do("drop", 60)
        self.assertEqual(self.do("section", 0, 1, "x"), 61)
        self.refused(-4, "cell", 0, 0, "x")

    def test_deepest(self):
        self.chain(6)
        self.refused(-5, "section", 6, 0, "x")
        self.assertEqual(self.do("cell", 6, 0, "seven deep"), 7)
        self.refused(-5, "section", 6, 7, "x")
        self.refused(-2, "cell", 7, 0, "x")
        self.assertEqual(self.do("section", 5, 6, "x"), 8)
        self.assertEqual(self.book.shape()[-2:], [(7, 7), (8, 6)])

    def test_numbers_used_up(self):
        self.use_up(999)
        self.assertEqual(self.do("section", 0, 0, "last"), 999)
        self.refused(-6, "section", 0, 0, "x")
        self.refused(-6, "cell", 999, 0, "x")
        self.assertEqual(self.do("drop", 999), 1)
        self.refused(-6, "cell", 0, 0, "x")

    def test_numbers_are_not_used_again(self):
        self.do("section", 0, 0, "")
        self.do("drop", 1)
        self.assertEqual(self.do("cell", 0, 0, ""), 2)
        self.refused(-2, "cell", 1, 0, "")
        self.refused(-2, "cell", 0, 1, "")

    def test_a_refusal_takes_no_number(self):
        self.refused(-3, "cell", 0, 0, [127])
        self.assertEqual(self.do("cell", 0, 0, ""), 1)

    def test_order_of_refusals(self):
        self.chain(6)
        self.refused(-2, "section", 7, 0, [127])
        self.refused(-3, "section", 6, 0, [127])
        self.refused(-5, "section", 6, 0, "")
        self.fill(60)
        self.refused(-2, "section", 1, 1, [127])
        self.refused(-2, "section", 1, 1, "")
        self.refused(-3, "section", 6, 0, [127])
        self.refused(-4, "section", 6, 0, "")

    def test_order_of_the_last_refusals(self):
        self.use_up(994)
        top = 0
        for depth in range(6):
            top = self.do("section", top, 0, "")
        self.refused(-2, "section", 1, 0, [127])
        self.refused(-3, "section", top, 0, [127])
        self.refused(-3, "cell", top, 0, [127])
        self.refused(-5, "section", top, 0, "")
        self.refused(-6, "cell", top, 0, "")
        self.refused(-2, "cell", top, 1, "")

    def test_full_before_used_up(self):
        self.use_up(940)
        self.fill(60)
        self.assertEqual(self.book.outline.next_number, 1000)
        self.refused(-3, "cell", 0, 0, [31])
        self.refused(-4, "cell", 0, 0, "")
        self.refused(-4, "section", 0, 0, "")
        self.do("drop", 999)
        self.refused(-6, "section", 0, 0, "")


class WriteTest(BookTest):
    def setUp(self):
        super().setUp()
        self.build(["# A", "== b"])

    def test_write(self):
        self.assertEqual(self.do("write", 1, "Title"), 0)
        self.assertEqual(self.do("write", 2, "see @1"), 0)
        self.assertEqual(self.book.texts(), {1: "Title", 2: "see @1"})
        for row in TEXTS:
            self.assertEqual(self.do("write", 2, row), 0)
            self.assertEqual(self.book.texts(), {1: "Title", 2: "".join(map(chr, row))})

    def test_write_keeps_the_rest(self):
        self.do("fold", 1, 1)
        self.do("write", 1, "x")
        self.assertEqual(self.book.state(), ([(1, 1, 0, 1, "x"), (2, 2, 1, 0, "b")], 3))

    def test_refusals(self):
        for number in NO_NUMBERS + (3,):
            self.refused(-1, "write", number, "x")
            self.refused(-1, "write", number, [127])
        for row in NOT_TEXTS:
            self.refused(-3, "write", 1, row)
            self.refused(-3, "write", 2, row)
