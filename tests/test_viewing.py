"""Points 10 (view) and 16 (step): which nodes are visible, and the way from one to the next."""

from tests.helper import HUGE, NO_NUMBERS, BookTest

PLAN = ["# A", "## B", "### C", "==== d", "== e", "# F", "## G", "= h"]


class ViewTest(BookTest):
    def view(self):
        """What view tells, as rows of number, depth and how many are hidden."""
        told = self.tell("view")
        self.assertEqual(len(told), 1 + 3 * told[0])
        return list(zip(told[1::3], told[2::3], told[3::3]))

    def test_empty(self):
        self.assertEqual(self.tell("view"), [0])

    def test_nothing_folded(self):
        self.build(PLAN)
        self.assertEqual(
            self.tell("view"),
            [8, 1, 1, 0, 2, 2, 0, 3, 3, 0, 4, 4, 0, 5, 2, 0, 6, 1, 0, 7, 2, 0, 8, 1, 0])

    def test_one_folded(self):
        self.build(PLAN)
        self.do("fold", 2, 1)
        self.assertEqual(self.view(), [(1, 1, 0), (2, 2, 2), (5, 2, 0), (6, 1, 0), (7, 2, 0), (8, 1, 0)])

    def test_folded_in_folded(self):
        self.build(PLAN)
        self.do("fold", 3, 1)
        self.assertEqual(self.view()[:4], [(1, 1, 0), (2, 2, 0), (3, 3, 1), (5, 2, 0)])
        self.do("fold", 2, 1)
        self.assertEqual(self.view()[:3], [(1, 1, 0), (2, 2, 2), (5, 2, 0)])
        self.do("fold", 1, 1)
        self.assertEqual(self.view(), [(1, 1, 4), (6, 1, 0), (7, 2, 0), (8, 1, 0)])
        self.do("fold", 2, 0)
        self.assertEqual(self.view()[:2], [(1, 1, 4), (6, 1, 0)])
        self.do("fold", 1, 0)
        self.assertEqual(self.view()[:4], [(1, 1, 0), (2, 2, 0), (3, 3, 1), (5, 2, 0)])

    def test_unfolded_in_folded_is_hidden(self):
        self.build(PLAN)
        self.do("fold", 1, 1)
        self.assertEqual(self.book.marks()[2], 0)
        self.assertEqual(self.view()[:2], [(1, 1, 4), (6, 1, 0)])

    def test_empty_folded_section(self):
        self.build(["# A", "# B"])
        self.do("foldFrom", 1)
        self.assertEqual(self.view(), [(1, 1, 0), (2, 1, 0)])

    def test_after_reveal(self):
        self.build(PLAN)
        self.do("foldFrom", 1)
        self.assertEqual(self.view(), [(1, 1, 4), (6, 1, 1), (8, 1, 0)])
        self.do("reveal", 3)
        self.assertEqual(self.view(), [(1, 1, 0), (2, 2, 0), (3, 3, 1), (5, 2, 0), (6, 1, 1), (8, 1, 0)])

    def test_moved_into_a_folded_section(self):
        self.build(PLAN)
        self.do("fold", 7, 1)
        self.do("move", 1, 7, 0)
        self.assertEqual(self.view(), [(6, 1, 0), (7, 2, 5), (8, 1, 0)])

    def test_sixty(self):
        self.chain(6)
        for count in range(54):
            self.do("cell", 6, 0, "")
        self.assertEqual(len(self.view()), 60)
        self.assertEqual(self.view()[6], (60, 7, 0))
        self.do("fold", 1, 1)
        self.assertEqual(self.view(), [(1, 1, 59)])


class StepTest(BookTest):
    def walk(self, number, direction):
        """The numbers that step goes through from the node on."""
        walked = []
        while number != 0:
            walked.append(number)
            number, = self.tell("step", number, direction)
        return walked

    def test_all_visible(self):
        self.build(PLAN)
        self.assertEqual(self.walk(1, 1), [1, 2, 3, 4, 5, 6, 7, 8])
        self.assertEqual(self.walk(8, -1), [8, 7, 6, 5, 4, 3, 2, 1])

    def test_reading_order_not_number_order(self):
        self.build(["# A", "== b", "# C"])
        self.do("raise", 3)
        self.assertEqual(self.walk(3, 1), [3, 1, 2])
        self.assertEqual(self.walk(2, -1), [2, 1, 3])

    def test_the_ends(self):
        self.build(["# A"])
        self.assertEqual(self.tell("step", 1, 1), [0])
        self.assertEqual(self.tell("step", 1, -1), [0])

    def test_folded_in_folded(self):
        self.build(PLAN)
        self.do("fold", 3, 1)
        self.assertEqual(self.walk(1, 1), [1, 2, 3, 5, 6, 7, 8])
        self.do("fold", 2, 1)
        self.assertEqual(self.walk(1, 1), [1, 2, 5, 6, 7, 8])
        self.assertEqual(self.walk(8, -1), [8, 7, 6, 5, 2, 1])
        self.do("fold", 1, 1)
        self.assertEqual(self.walk(1, 1), [1, 6, 7, 8])
        self.assertEqual(self.walk(6, -1), [6, 1])
        for number in (2, 3, 4, 5):
            self.refused(-15, "step", number, 1)
            self.refused(-15, "step", number, -1)

    def test_last_one_folded(self):
        self.build(["# A", "# B", "## C"])
        self.do("fold", 2, 1)
        self.assertEqual(self.tell("step", 2, 1), [0])
        self.assertEqual(self.tell("step", 2, -1), [1])

    def test_a_folded_section_itself_is_visible(self):
        self.build(["# A", "== b"])
        self.do("fold", 1, 1)
        self.assertEqual(self.tell("step", 1, 1), [0])
        self.refused(-15, "step", 2, 1)

    def test_refusals(self):
        self.build(PLAN)
        for number in NO_NUMBERS + (9,):
            self.refused(-1, "step", number, 1)
            self.refused(-1, "step", number, 0)
        for direction in (0, 2, -2, HUGE, -HUGE):
            self.refused(-16, "step", 1, direction)

    def test_order_of_refusals(self):
        self.build(PLAN)
        self.do("fold", 1, 1)
        self.refused(-1, "step", 9, 2)
        self.refused(-16, "step", 2, 0)
        self.refused(-16, "step", 4, 2)
        self.refused(-15, "step", 4, 1)
