"""Point 8: copy."""

from tests.helper import NO_NUMBERS, BookTest

PLAN = ["# A", "## B", "=== c", "== d", "# E"]


class CopyTest(BookTest):
    def copied_text(self, text):
        """The text that the copy of node 1 has when node 1 has the text told."""
        self.do("write", 1, text)
        number = self.do("copy", 1, 0, 0)
        self.assertGreater(number, 0)
        return self.book.texts()[number]

    def test_tree_with_new_numbers(self):
        self.build(PLAN)
        self.assertEqual(self.do("copy", 1, 0, 5), 6)
        self.assertEqual(
            self.book.shape(), [(1, 1), (2, 2), (3, 3), (4, 2), (5, 1), (6, 1), (7, 2), (8, 3), (9, 2)])
        self.assertEqual([row[4] for row in self.book.state()[0][5:]], ["A", "B", "c", "d"])
        self.assertEqual([row[2] for row in self.book.state()[0][5:]], [0, 0, 1, 1])
        self.assertEqual(self.do("cell", 0, 0, ""), 10)

    def test_to_another_depth(self):
        self.build(PLAN)
        self.assertEqual(self.do("copy", 2, 5, 0), 6)
        self.assertEqual(self.do("copy", 5, 2, 3), 8)
        self.assertEqual(
            self.book.shape(),
            [(1, 1), (2, 2), (3, 3), (8, 3), (9, 4), (10, 5), (4, 2), (5, 1), (6, 2), (7, 3)])
        self.assertEqual(self.do("copy", 3, 0, 0), 11)
        self.assertEqual(self.book.shape()[0], (11, 1))

    def test_into_the_tree_itself(self):
        self.build(PLAN)
        self.assertEqual(self.do("copy", 1, 2, 0), 6)
        self.assertEqual(
            self.book.shape(), [(1, 1), (2, 2), (6, 3), (7, 4), (8, 5), (9, 4), (3, 3), (4, 2), (5, 1)])

    def test_into_itself_and_behind_itself(self):
        self.build(PLAN)
        self.assertEqual(self.do("copy", 2, 2, 3), 6)
        self.assertEqual(self.book.shape()[1:6], [(2, 2), (3, 3), (6, 3), (7, 4), (4, 2)])
        self.assertEqual(self.do("copy", 2, 1, 2), 8)
        self.assertEqual(self.book.shape()[1:10], [
            (2, 2), (3, 3), (6, 3), (7, 4), (8, 2), (9, 3), (10, 3), (11, 4), (4, 2)])

    def test_marks(self):
        self.build(["# A", "## B", "### C"])
        self.do("fold", 2, 1)
        self.assertEqual(self.do("copy", 1, 0, 1), 4)
        self.assertEqual(self.book.marks(), {1: 0, 2: 1, 3: 0, 4: 0, 5: 1, 6: 0})

    def test_the_copy_is_another(self):
        self.build(PLAN)
        self.do("copy", 1, 0, 5)
        self.do("write", 2, "other")
        self.do("fold", 6, 1)
        self.do("drop", 4)
        self.assertEqual(self.book.texts(), {1: "A", 2: "other", 3: "c", 5: "E", 6: "A", 7: "B", 8: "c", 9: "d"})
        self.assertEqual(self.book.marks(), {1: 0, 2: 0, 5: 0, 6: 1, 7: 0})

    def test_references_inside_and_outside(self):
        self.build(["# A @2 @3", "## B @1@4", "== c @9 @2, @5", "# D @1 @2"])
        self.assertEqual(self.do("copy", 1, 0, 0), 5)
        self.assertEqual(self.book.texts(), {
            5: "A @6 @7", 6: "B @5@4", 7: "c @9 @6, @5", 1: "A @2 @3", 2: "B @1@4", 3: "c @9 @2, @5", 4: "D @1 @2"})

    def test_a_new_number_is_not_renumbered_again(self):
        self.build(["# @1 @2 @3", "== @1", "== @2"])
        self.do("copy", 1, 0, 0)
        self.do("copy", 4, 4, 0)
        self.assertEqual(self.book.texts()[4], "@4 @5 @6")
        self.assertEqual(self.book.texts()[7], "@7 @8 @9")
        self.assertEqual(self.book.texts()[8], "@7")

    def test_signs_that_are_no_reference(self):
        self.build(["# A"])
        self.assertEqual(self.copied_text("@@1 @0 @01 @ @x @"), "@@1 @0 @01 @ @x @")
        self.assertEqual(self.copied_text("@@@1"), "@@@3")
        self.assertEqual(self.copied_text("@@@@1"), "@@@@1")
        self.assertEqual(self.copied_text("@1@"), "@5@")
        self.assertEqual(self.copied_text("x@1@1y"), "x@6@6y")
        self.assertEqual(self.copied_text("1@:1 @/1 @-1 1"), "1@:1 @/1 @-1 1")
        self.assertEqual(self.copied_text("@1:@1/@1 @1a"), "@8:@8/@8 @8a")
        self.assertEqual(self.copied_text("@"), "@")
        self.assertEqual(self.copied_text("@@"), "@@")

    def test_a_longer_number_is_another(self):
        self.build(["# A"])
        self.assertEqual(self.copied_text("@10 @11 @100 @1000 @1"), "@10 @11 @100 @1000 @2")

    def test_numbers_of_one_to_four_digits(self):
        self.use_up(123)
        self.assertEqual(self.do("section", 0, 0, "@1 @12 @123 @1234 @12345 @1230"), 123)
        self.assertEqual(self.do("copy", 123, 0, 0), 124)
        self.assertEqual(self.book.texts()[124], "@1 @12 @124 @1244 @12445 @1240")

    def test_two_digits_grow_to_three(self):
        self.use_up(12)
        self.assertEqual(self.do("cell", 0, 0, "a@12b@12@12c"), 12)
        self.use_up(100)
        self.assertEqual(self.do("copy", 12, 0, 0), 100)
        self.assertEqual(self.book.texts()[100], "a@100b@100@100c")
        self.assertEqual(self.book.texts()[12], "a@12b@12@12c")

    def test_four_digits_behind_the_sign(self):
        self.use_up(99)
        self.assertEqual(self.do("cell", 0, 0, "@99 @990 @9999 @0099"), 99)
        self.assertEqual(self.do("copy", 99, 0, 0), 100)
        self.assertEqual(self.book.texts()[100], "@100 @990 @9999 @0099")

    def test_a_text_that_grows_past_sixty_bytes(self):
        self.build(["# A", "== b"])
        self.use_up(9)
        self.do("write", 2, "@1" + "x" * 58)
        self.assertEqual(self.do("copy", 2, 0, 0), 9)
        self.refused(-14, "copy", 1, 0, 0)
        self.do("write", 2, "@2" + "x" * 57 + "y")
        self.refused(-14, "copy", 2, 0, 0)
        self.do("write", 2, "@2" + "x" * 57)
        self.assertEqual(self.do("copy", 2, 0, 0), 10)
        self.assertEqual(self.book.texts()[10], "@10" + "x" * 57)
        self.do("write", 2, "@@2" + "x" * 57)
        self.assertEqual(self.do("copy", 2, 0, 0), 11)

    def test_a_full_text_without_references(self):
        self.build(["# A"])
        self.use_up(100)
        self.assertEqual(self.copied_text("~" * 60), "~" * 60)

    def test_no_node_and_no_place(self):
        self.build(PLAN)
        for number in NO_NUMBERS + (6,):
            self.refused(-1, "copy", number, 0, 0)
            self.refused(-1, "copy", number, 77, 77)
        for number in NO_NUMBERS[1:] + (6,):
            self.refused(-2, "copy", 1, number, 0)
            self.refused(-2, "copy", 1, 0, number)
        self.refused(-2, "copy", 1, 3, 0)
        self.refused(-2, "copy", 1, 0, 2)
        self.refused(-2, "copy", 1, 1, 1)
        self.refused(-2, "copy", 1, 5, 4)
        self.refused(-2, "copy", 3, 1, 3)

    def test_sixty_nodes(self):
        self.build(PLAN)
        self.fill(56)
        self.assertEqual(self.do("copy", 1, 0, 0), 57)
        self.refused(-4, "copy", 5, 0, 0)
        self.refused(-4, "copy", 3, 0, 0)
        self.assertEqual(self.do("drop", 58), 2)
        self.refused(-4, "copy", 1, 0, 0)
        self.assertEqual(self.do("copy", 2, 0, 0), 61)

    def test_too_deep(self):
        self.chain(6)
        self.build(["# A", "## B", "=== c", "= d"])
        self.refused(-5, "copy", 7, 5, 0)
        self.refused(-5, "copy", 8, 6, 0)
        self.refused(-5, "copy", 1, 1, 0)
        self.refused(-5, "copy", 6, 6, 0)
        self.assertEqual(self.do("copy", 10, 6, 0), 11)
        self.assertEqual(self.do("copy", 7, 4, 0), 12)
        self.assertEqual(self.book.shape()[4:8], [(12, 5), (13, 6), (14, 7), (5, 5)])

    def test_numbers_used_up(self):
        self.use_up(994)
        self.build(["# A"])
        self.assertEqual(self.do("cell", 994, 0, ""), 995)
        self.assertEqual(self.do("copy", 994, 0, 0), 996)
        self.assertEqual(self.do("copy", 994, 0, 0), 998)
        self.refused(-6, "copy", 995, 0, 0)
        self.refused(-6, "copy", 994, 0, 0)

    def test_numbers_that_do_not_suffice(self):
        self.use_up(997)
        self.build(["# A"])
        self.assertEqual(self.do("cell", 997, 0, "@997"), 998)
        self.refused(-6, "copy", 997, 0, 0)
        self.assertEqual(self.do("copy", 998, 0, 0), 999)
        self.assertEqual(self.book.texts()[999], "@997")

    def test_order_of_refusals(self):
        self.chain(6)
        self.do("write", 6, "@6" + "x" * 58)
        self.use_up(999)
        self.refused(-1, "copy", 999, 999, 0)
        self.refused(-2, "copy", 1, 999, 0)
        self.refused(-5, "copy", 1, 1, 0)
        self.refused(-6, "copy", 1, 0, 0)
        self.refused(-14, "copy", 6, 0, 0)
        self.do("cell", 0, 0, "")
        self.refused(-6, "copy", 6, 0, 0)
        self.refused(-5, "copy", 6, 6, 0)

    def test_full_comes_before_too_deep(self):
        self.chain(6)
        self.fill(57)
        self.refused(-2, "copy", 1, 1, 3)
        self.refused(-4, "copy", 1, 1, 0)
        self.refused(-5, "copy", 4, 4, 0)

    def test_full_comes_before_used_up(self):
        self.use_up(940)
        self.fill(60)
        self.refused(-4, "copy", 999, 0, 0)
        self.do("drop", 940)
        self.refused(-6, "copy", 999, 0, 0)

    def test_a_refusal_takes_no_number(self):
        self.build(["# A", "== b"])
        self.do("write", 1, "@2" + "x" * 58)
        self.use_up(20)
        self.refused(-14, "copy", 1, 0, 0)
        self.assertEqual(self.do("cell", 0, 0, ""), 20)
