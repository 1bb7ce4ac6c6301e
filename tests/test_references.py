"""Point 14: references, referring, broken."""

from tests.helper import NO_NUMBERS, BookTest

PLAN = ["# A @2", "== b @1 @9 @1", "## C", "# D @2@3", "= @@1 @0 @"]


class ReferencesTest(BookTest):
    def test_in_order(self):
        self.build(PLAN)
        self.assertEqual(self.tell("references", 1), [1, 2, 1])
        self.assertEqual(self.tell("references", 2), [3, 1, 1, 9, 0, 1, 1])
        self.assertEqual(self.tell("references", 3), [0])
        self.assertEqual(self.tell("references", 4), [2, 2, 1, 3, 1])
        self.assertEqual(self.tell("references", 5), [0])

    def test_one_to_four_digits(self):
        self.load("outline 1000\n= 1 @1 @12 @123 @1234 @999 @9999 @10 @100 @1000 @012\n= 12 \n= 999 \n")
        self.assertEqual(self.tell("references", 1), [
            9, 1, 1, 12, 1, 123, 0, 123, 0, 999, 1, 999, 1, 10, 0, 100, 0, 100, 0])

    def test_two_signs(self):
        self.build(["= @@1@@@1@@@@1@1@@"])
        self.assertEqual(self.tell("references", 1), [2, 1, 1, 1, 1])

    def test_thirty(self):
        self.do("cell", 0, 0, "@1" * 30)
        self.assertEqual(self.tell("references", 1), [30] + [1, 1] * 30)

    def test_after_a_drop(self):
        self.build(PLAN)
        self.do("drop", 1)
        self.assertEqual(self.tell("references", 4), [2, 2, 0, 3, 0])

    def test_no_node(self):
        self.build(PLAN)
        for number in NO_NUMBERS + (6,):
            self.refused(-1, "references", number)


class ReferringTest(BookTest):
    def test_in_reading_order(self):
        self.build(PLAN)
        self.assertEqual(self.tell("referring", 2), [2, 1, 4])
        self.do("raise", 4)
        self.assertEqual(self.tell("referring", 2), [2, 4, 1])

    def test_twice_is_told_once(self):
        self.build(PLAN)
        self.assertEqual(self.tell("referring", 1), [1, 2])

    def test_none_and_itself(self):
        self.build(["# @1", "# 1 @@2 @20 @3", "= "])
        self.assertEqual(self.tell("referring", 1), [1, 1])
        self.assertEqual(self.tell("referring", 2), [0])
        self.assertEqual(self.tell("referring", 3), [1, 2])

    def test_hidden_ones_too(self):
        self.build(["# A", "== @1"])
        self.do("fold", 1, 1)
        self.assertEqual(self.tell("referring", 1), [1, 2])

    def test_copies_refer_to_copies(self):
        self.build(["# A", "== @1"])
        self.do("copy", 1, 0, 1)
        self.assertEqual(self.tell("referring", 1), [1, 2])
        self.assertEqual(self.tell("referring", 3), [1, 4])

    def test_sixty(self):
        for count in range(60):
            self.do("cell", 0, 0, "@1")
        self.assertEqual(self.tell("referring", 1), [60] + list(range(60, 0, -1)))

    def test_no_node(self):
        self.build(PLAN)
        for number in NO_NUMBERS + (6, 9):
            self.refused(-1, "referring", number)


class BrokenTest(BookTest):
    def test_none(self):
        self.assertEqual(self.tell("broken"), [0])
        self.build(["# @1 @@9 @0", "= @2@1"])
        self.assertEqual(self.tell("broken"), [0])

    def test_in_reading_order(self):
        self.build(PLAN)
        self.assertEqual(self.tell("broken"), [1, 2])
        self.do("write", 4, "@1@77@78")
        self.assertEqual(self.tell("broken"), [2, 2, 4])
        self.do("raise", 4)
        self.assertEqual(self.tell("broken"), [2, 4, 2])

    def test_only_one_of_several_is_broken(self):
        self.build(["= @1@2", "= @2@1@3", "= @4@3"])
        self.assertEqual(self.tell("broken"), [1, 3])

    def test_after_drops(self):
        self.build(PLAN)
        self.do("drop", 2)
        self.assertEqual(self.tell("broken"), [2, 1, 4])
        self.do("drop", 1)
        self.assertEqual(self.tell("broken"), [1, 4])

    def test_a_new_node_mends(self):
        self.build(["= @2"])
        self.assertEqual(self.tell("broken"), [1, 1])
        self.do("cell", 0, 0, "")
        self.assertEqual(self.tell("broken"), [0])

    def test_sixty(self):
        for count in range(60):
            self.do("cell", 0, 0, "@999")
        self.assertEqual(self.tell("broken"), [60] + list(range(60, 0, -1)))
