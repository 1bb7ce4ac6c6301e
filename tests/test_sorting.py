"""Point 7: sort."""

from tests.helper import NO_NUMBERS, BookTest


class SortTest(BookTest):
    def test_top_nodes_with_their_trees(self):
        self.build(["# pear", "## z", "## a", "= apple", "# fig", "== x"])
        self.assertEqual(self.do("sort", 0), 3)
        self.assertEqual(self.book.shape(), [(4, 1), (5, 1), (6, 2), (1, 1), (2, 2), (3, 2)])
        self.assertEqual(self.do("sort", 0), 0)

    def test_children_of_a_section_alone(self):
        self.build(["# z", "## c", "### y", "### x", "== b", "## a", "# a"])
        self.assertEqual(self.do("sort", 1), 2)
        self.assertEqual(self.book.shape(), [(1, 1), (6, 2), (5, 2), (2, 2), (3, 3), (4, 3), (7, 1)])
        self.assertEqual(self.do("sort", 2), 2)
        self.assertEqual(self.book.shape()[3:6], [(2, 2), (4, 3), (3, 3)])

    def test_one_keeps_its_place(self):
        self.build(["= c", "= b", "= a"])
        self.assertEqual(self.do("sort", 0), 2)
        self.assertEqual(self.book.shape(), [(3, 1), (2, 1), (1, 1)])

    def test_a_beginning_comes_first(self):
        self.build(["= abc", "= ab", "= ", "= abd", "= b", "= a"])
        self.assertEqual(self.do("sort", 0), 6)
        self.assertEqual([number for number, depth in self.book.shape()], [3, 6, 2, 1, 4, 5])

    def test_by_bytes(self):
        self.build(["= ~", "= a", "= Z", "= 10", "= 9", "=  ", "= @2"])
        self.do("sort", 0)
        self.assertEqual([number for number, depth in self.book.shape()], [6, 4, 5, 7, 3, 2, 1])

    def test_a_longer_text_with_a_smaller_byte_comes_first(self):
        self.build(["= b", "= aaaa", "= ab"])
        self.assertEqual(self.do("sort", 0), 3)
        self.assertEqual([number for number, depth in self.book.shape()], [2, 3, 1])

    def test_equal_texts_keep_their_order(self):
        self.build(["= b", "# a", "= b", "# a", "# b", "= a"])
        self.assertEqual(self.do("sort", 0), 6)
        self.assertEqual([number for number, depth in self.book.shape()], [2, 4, 6, 1, 3, 5])

    def test_all_equal(self):
        self.build(["= a", "# a", "= a"])
        self.do("raise", 3)
        self.assertEqual(self.do("sort", 0), 0)
        self.assertEqual([number for number, depth in self.book.shape()], [1, 3, 2])

    def test_nothing_to_sort(self):
        self.assertEqual(self.do("sort", 0), 0)
        self.build(["# a"])
        self.assertEqual(self.do("sort", 1), 0)
        self.assertEqual(self.do("sort", 0), 0)

    def test_sixty(self):
        for count in range(60):
            self.do("cell", 0, 0, [40 + count])
        self.assertEqual(self.do("sort", 0), 60)
        self.assertEqual([number for number, depth in self.book.shape()], list(range(1, 61)))

    def test_refusals(self):
        self.build(["# a", "== c", "== b", "= d"])
        for number in NO_NUMBERS[1:] + (5,):
            self.refused(-1, "sort", number)
        for number in (2, 3, 4):
            self.refused(-7, "sort", number)
        self.assertEqual(self.do("sort", 1), 2)
