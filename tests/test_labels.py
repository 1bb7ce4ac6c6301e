"""Point 11: label and find, and the chapter "Words" on labels."""

from tests.helper import HUGE, NO_NUMBERS, BookTest

PLAN = ["# A", "== b", "## C", "### D", "=== e", "## F", "= g", "# H", "## I"]
LABELS = {1: "1", 2: "#1", 3: "1.1", 4: "1.1.1", 5: "#2", 6: "1.2", 7: "#3", 8: "2", 9: "2.1"}


class LabelTest(BookTest):
    def labels_found(self):
        """The labels, after a look whether find answers each of them."""
        labels = self.labels()
        for number, label in labels.items():
            self.assertEqual(self.tell("find", label), [number], label)
        return labels

    def test_sections_and_cells(self):
        self.build(PLAN)
        self.assertEqual(self.labels_found(), LABELS)

    def test_as_in_the_document(self):
        self.build(["# A", "## B", "## C"])
        self.assertEqual(self.tell("label", 3), [3, 49, 46, 50])

    def test_cells_do_not_count_among_sections(self):
        self.build(["= a", "# B", "= c", "= d", "# E", "== f", "## G"])
        self.assertEqual(
            self.labels(), {1: "#1", 2: "1", 3: "#2", 4: "#3", 5: "2", 6: "#4", 7: "2.1"})

    def test_counted_anew_in_each_section(self):
        self.build(["# A", "## B", "### C", "## D", "### E", "# F", "## G", "### H"])
        self.assertEqual(
            self.labels(),
            {1: "1", 2: "1.1", 3: "1.1.1", 4: "1.2", 5: "1.2.1", 6: "2", 7: "2.1", 8: "2.1.1"})

    def test_folded_or_not(self):
        self.build(PLAN)
        self.do("foldFrom", 1)
        self.assertEqual(self.labels(), LABELS)

    def test_after_a_move(self):
        self.build(PLAN)
        self.do("move", 3, 8, 9)
        self.assertEqual(self.labels_found(), {
            1: "1", 2: "#1", 6: "1.1", 7: "#2", 8: "2", 9: "2.1", 3: "2.2", 4: "2.2.1", 5: "#3"})
        self.refused(-13, "find", "1.2")
        self.refused(-13, "find", "1.1.1")

    def test_after_promote_demote_and_raise(self):
        self.build(PLAN)
        self.do("promote", 3)
        self.assertEqual([self.labels()[number] for number in (3, 4, 6, 8)], ["2", "2.1", "1.1", "3"])
        self.do("demote", 3)
        self.assertEqual([self.labels()[number] for number in (3, 4, 6, 8)], ["1.2", "1.2.1", "1.1", "2"])
        self.do("raise", 8)
        self.do("raise", 8)
        self.assertEqual([self.labels()[number] for number in (8, 9, 1, 7, 2)], ["1", "1.1", "2", "#3", "#1"])

    def test_after_a_sort(self):
        self.build(["# pear", "== x", "# fig", "## b", "## a", "= apple"])
        self.do("sort", 0)
        self.assertEqual(self.labels(), {6: "#1", 3: "1", 4: "1.1", 5: "1.2", 1: "2", 2: "#2"})
        self.do("sort", 3)
        self.assertEqual(self.labels_found(), {6: "#1", 3: "1", 5: "1.1", 4: "1.2", 1: "2", 2: "#2"})

    def test_after_a_wrap_and_dissolved_again(self):
        self.build(PLAN)
        self.do("wrap", 3, 6, "W")
        self.assertEqual(self.labels_found(), {
            1: "1", 2: "#1", 10: "1.1", 3: "1.1.1", 4: "1.1.1.1", 5: "#2", 6: "1.1.2", 7: "#3", 8: "2", 9: "2.1"})
        self.do("dissolve", 10)
        self.assertEqual(self.labels(), LABELS)

    def test_after_a_copy(self):
        self.build(PLAN)
        self.do("copy", 3, 0, 0)
        self.assertEqual(self.labels_found(), {
            10: "1", 11: "1.1", 12: "#1", 1: "2", 2: "#2", 3: "2.1", 4: "2.1.1", 5: "#3", 6: "2.2", 7: "#4", 8: "3",
            9: "3.1"})

    def test_after_a_drop(self):
        self.build(PLAN)
        self.do("drop", 3)
        self.assertEqual(self.labels(), {1: "1", 2: "#1", 6: "1.1", 7: "#2", 8: "2", 9: "2.1"})

    def test_deepest(self):
        self.chain(6)
        self.do("cell", 6, 0, "")
        self.assertEqual(self.labels_found()[6], "1.1.1.1.1.1")
        self.assertEqual(self.labels_found()[7], "#1")

    def test_two_digits(self):
        self.chain(1)
        for count in range(29):
            self.do("section", 1, 0, "")
            self.do("cell", 1, 0, "")
        labels = self.labels()
        self.assertEqual([labels[number] for number in (2, 40, 42, 58, 3, 39, 41, 59)], [
            "1.29", "1.10", "1.9", "1.1", "#29", "#11", "#10", "#1"])
        self.assertEqual(self.tell("find", "1.10"), [40])
        self.assertEqual(self.tell("find", "#29"), [3])

    def test_no_node(self):
        self.refused(-1, "label", 1)
        self.build(PLAN)
        for number in NO_NUMBERS + (10,):
            self.refused(-1, "label", number)


class FindTest(BookTest):
    def test_no_such_label(self):
        self.refused(-13, "find", "1")
        self.refused(-13, "find", "")
        self.build(PLAN)
        for label in (
                "", "0", "3", "1.3", "1.1.2", "1.1.1.1", "01", "1.", ".1", "1..1", "1 ", " 1", "#0", "#4", "#", "#01",
                "##1", "1#", "#1.1", "1.#1", "A", "2.1.", "11"):
            self.refused(-13, "find", label)

    def test_numbers_that_are_no_bytes(self):
        self.build(PLAN)
        for label in (
                [-1], [256], [HUGE], [-HUGE], [49 + 256], [49 - 256], [49, 46, 49 + 256], [49, 256], [256, 49],
                [0], [255], [1], [49] * 200, [HUGE] * 200):
            self.refused(-13, "find", label)

    def test_bytes(self):
        self.build(PLAN)
        self.assertEqual(self.tell("find", [49, 46, 50]), [6])
        self.assertEqual(self.tell("find", [35, 51]), [7])
