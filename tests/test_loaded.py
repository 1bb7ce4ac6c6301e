"""The calls 0 to 15 on an outline that was loaded, and numbers used up after a load."""

from tests.helper import BookTest

TEXT = "outline 500\n# 40 + pear @7\n## 7 - fig\n=== 31 see @40\n## 12 + apple\n= 499 last\n# 3 + kiwi\n"


class LoadedTest(BookTest):
    def setUp(self):
        super().setUp()
        self.do("section", 0, 0, "gone")
        self.load(TEXT)

    def test_order(self):
        self.assertEqual(self.tell("order"), [6, 40, 1, 7, 2, 31, 3, 12, 2, 499, 1, 3, 1])

    def test_new_nodes(self):
        self.refused(-2, "section", 1, 0, "x")
        self.assertEqual(self.do("section", 12, 0, "new"), 500)
        self.assertEqual(self.do("cell", 40, 7, "new"), 501)
        self.assertEqual(
            self.book.shape(),
            [(40, 1), (7, 2), (31, 3), (501, 2), (12, 2), (500, 3), (499, 1), (3, 1)])

    def test_write(self):
        self.assertEqual(self.do("write", 31, "other"), 0)
        self.refused(-3, "write", 31, [127])
        self.refused(-1, "write", 1, "x")
        self.assertEqual(self.tell_signs("save"), TEXT.replace("see @40", "other"))

    def test_move(self):
        self.refused(-8, "move", 40, 7, 0)
        self.assertEqual(self.do("move", 7, 3, 0), 0)
        self.assertEqual(self.book.shape(), [(40, 1), (12, 2), (499, 1), (3, 1), (7, 2), (31, 3)])

    def test_drop_and_dissolve(self):
        self.assertEqual(self.do("dissolve", 40), 2)
        self.assertEqual(self.book.shape(), [(7, 1), (31, 2), (12, 1), (499, 1), (3, 1)])
        self.refused(-7, "dissolve", 31)
        self.assertEqual(self.do("drop", 7), 2)
        self.assertEqual(self.book.shape(), [(12, 1), (499, 1), (3, 1)])

    def test_promote_demote_and_raise(self):
        self.assertEqual(self.do("promote", 31), 0)
        self.assertEqual(self.do("demote", 12), -9)
        self.assertEqual(self.do("raise", 12), 0)
        self.assertEqual(self.book.shape(), [(40, 1), (7, 2), (12, 2), (31, 2), (499, 1), (3, 1)])
        self.assertEqual(self.do("demote", 12), 0)
        self.assertEqual(self.do("demote", 499), 0)
        self.assertEqual(self.book.shape(), [(40, 1), (7, 2), (12, 3), (31, 2), (499, 2), (3, 1)])

    def test_wrap(self):
        self.refused(-10, "wrap", 3, 40, "x")
        self.assertEqual(self.do("wrap", 499, 3, "W"), 500)
        self.assertEqual(self.book.shape()[4:], [(500, 1), (499, 2), (3, 2)])

    def test_sort(self):
        self.assertEqual(self.do("sort", 0), 2)
        self.assertEqual(self.do("sort", 40), 2)
        self.assertEqual(self.book.shape(), [(3, 1), (499, 1), (40, 1), (12, 2), (7, 2), (31, 3)])

    def test_copy(self):
        self.assertEqual(self.do("copy", 40, 0, 3), 500)
        self.assertEqual(self.tell_signs("text", 500), "pear @501")
        self.assertEqual(self.tell_signs("text", 502), "see @500")
        self.assertEqual(self.book.marks()[501], 1)
        self.assertEqual(self.tell_signs("shown", 502), "see 3")

    def test_fold(self):
        self.assertEqual(self.book.marks(), {40: 0, 7: 1, 12: 0, 3: 0})
        self.assertEqual(self.do("reveal", 31), 1)
        self.assertEqual(self.do("fold", 3, 1), 0)
        self.assertEqual(self.book.marks(), {40: 0, 7: 0, 12: 0, 3: 1})
        self.assertEqual(self.do("foldFrom", 2), 2)
        self.assertEqual(self.book.marks(), {40: 0, 7: 1, 12: 1, 3: 0})

    def test_view_and_step(self):
        self.assertEqual(
            self.tell("view"), [5, 40, 1, 0, 7, 2, 1, 12, 2, 0, 499, 1, 0, 3, 1, 0])
        self.assertEqual(self.tell("step", 7, 1), [12])
        self.refused(-15, "step", 31, 1)

    def test_old_nodes_are_gone(self):
        self.refused(-1, "info", 1)
        self.assertEqual(self.tell("state"), [6, 4, 2, 500])


class UsedUpTest(BookTest):
    def test_no_number_is_left(self):
        self.load("outline 1000\n# 4 + A\n== 5 b\n")
        self.refused(-6, "section", 0, 0, "x")
        self.refused(-6, "cell", 4, 5, "x")
        self.refused(-6, "wrap", 4, 4, "x")
        self.refused(-6, "copy", 5, 0, 0)
        self.assertEqual(self.tell("state"), [2, 1, 1, 1000])

    def test_one_number_is_left(self):
        self.load("outline 999\n# 4 + A\n== 5 b\n")
        self.refused(-6, "copy", 4, 0, 0)
        self.assertEqual(self.do("copy", 5, 0, 0), 999)
        self.refused(-6, "cell", 0, 0, "x")

    def test_a_load_gives_numbers_again(self):
        self.load("outline 1000\n")
        self.refused(-6, "cell", 0, 0, "x")
        self.load("outline 1\n")
        self.assertEqual(self.do("cell", 0, 0, "x"), 1)

    def test_a_load_with_a_fault_gives_none(self):
        self.load("outline 1000\n")
        self.fault(4, 1, "outline 3\n== 1 x\n")
        self.refused(-6, "cell", 0, 0, "x")

    def test_full(self):
        lines = "".join(f"= {number} \n" for number in range(1, 61))
        self.load("outline 1000\n" + lines)
        self.refused(-4, "cell", 0, 0, "x")
        self.refused(-4, "copy", 1, 0, 0)
        self.refused(-4, "wrap", 1, 2, "x")
        self.do("drop", 60)
        self.refused(-6, "cell", 0, 0, "x")
