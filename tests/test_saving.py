"""Point 17: save and load, and the chapter "Words" on the outline's text and its faults."""

from tests.helper import HUGE, BookTest, row_of

PLAN = ["# A", "## B b", "=== c @1", "== ", "# ", "= e"]
SAVED = "outline 7\n# 1 + A\n## 2 - B b\n=== 3 c @1\n== 4 \n# 5 + \n= 6 e\n"
# The lines of a text without faults; the tests put others in their places.
GOOD = ("outline 50", "# 1 + A", "## 2 - B", "=== 3 c", "= 4 d")
# Lines that are no node's, whatever stands before them.
NOT_WRITTEN = (
    "", " ", "x", "#", "=", "# ", "= ", "# 9", "= 9", "#9 + x", "=9 x", "# 9 ", "# 9 +", "# 9 -", "# 9+ x", "# 9 +x",
    "# 9 x", "# 9 * x", "# 9  + x", "#  9 + x", " # 9 + x", " = 9 x", "=  9 x", "= x", "= -9 x", "= +9 x", "= 9x",
    "# + x", "# 09 + x", "= 09 x", "= 00 x", "= 0000 x", "= 12345 x", "# 12345 + x", "= 00009 x", "######## 9 + x",
    "======== 9 x", "#= 9 x", "=# 9 x", "=#9 x", "# 9 + " + "x" * 61, "= 9 " + "x" * 61, "= 9 x\t", "= 9 \x7f",
    "# 9 + \x1f", "# 9 - x\xff", "= 9 x\r", "= 9\tx", "- 9 x", "outline 50", "= 9 x\x00", "=\x009 x", "= 1:0 x",
    "= 1/ x", "= : x", "# / + x", " 9 + x", " 9 x", "9 + x", "+ 9 x")


def text_of(*lines):
    return "".join(line + "\n" for line in lines)


class SaveTest(BookTest):
    def test_empty(self):
        self.assertEqual(self.tell_signs("save"), "outline 1\n")

    def test_each_kind_of_line(self):
        self.build(PLAN)
        self.do("fold", 2, 1)
        self.assertEqual(self.tell_signs("save"), SAVED)

    def test_number_by_number(self):
        self.build(["# A"])
        self.assertEqual(
            self.tell("save"),
            [18, 111, 117, 116, 108, 105, 110, 101, 32, 50, 10, 35, 32, 49, 32, 43, 32, 65, 10])

    def test_every_depth(self):
        self.chain(6)
        self.do("cell", 6, 0, "deep")
        self.assertEqual(self.tell_signs("save"), text_of(
            "outline 8", "# 1 + s1", "## 2 + s2", "### 3 + s3", "#### 4 + s4", "##### 5 + s5", "###### 6 + s6",
            "======= 7 deep"))

    def test_reading_order_and_next_number(self):
        self.build(PLAN)
        self.do("raise", 6)
        self.do("drop", 1)
        self.assertEqual(self.tell_signs("save"), "outline 7\n= 6 e\n# 5 + \n")

    def test_used_up(self):
        self.use_up(999)
        self.do("cell", 0, 0, "")
        self.assertEqual(self.tell_signs("save"), "outline 1000\n= 999 \n")

    def test_texts_as_they_are(self):
        self.build(["# @@ @1 @", "= # 1 + x", "= = ~"])
        self.assertEqual(self.tell_signs("save"), "outline 4\n# 1 + @@ @1 @\n= 2 # 1 + x\n= 3 = ~\n")


class LoadTest(BookTest):
    def test_save_load_save(self):
        self.build(PLAN)
        self.do("fold", 2, 1)
        before = self.book.state()
        saved = self.tell_signs("save")
        self.do("drop", 1)
        self.do("cell", 0, 0, "other")
        self.load(saved)
        self.assertEqual(self.book.state(), before)
        self.assertEqual(self.tell_signs("save"), saved)

    def test_all_that_is_read(self):
        self.load(SAVED)
        self.assertEqual(self.book.state(), ([
            (1, 1, 0, 0, "A"), (2, 2, 0, 1, "B b"), (3, 3, 1, 0, "c @1"), (4, 2, 1, 0, ""), (5, 1, 0, 0, ""),
            (6, 1, 1, 0, "e")], 7))

    def test_answers_zero_alone(self):
        self.assertEqual(self.do("load", "outline 1\n"), 0)

    def test_no_nodes(self):
        self.build(PLAN)
        for number in (1, 7, 42, 999, 1000):
            self.load(f"outline {number}\n")
            self.assertEqual(self.book.state(), ([], number))
            self.assertEqual(self.tell_signs("save"), f"outline {number}\n")

    def test_the_next_number_may_be_less(self):
        self.build(PLAN)
        self.load("outline 2\n= 1 x\n")
        self.assertEqual(self.do("cell", 0, 0, ""), 2)
        self.assertEqual(self.tell("state"), [2, 0, 2, 3])

    def test_numbers_in_any_order(self):
        text = "outline 1000\n# 999 - Z\n== 5 y\n## 998 + X\n= 1 w\n# 10 + v\n= 100 u\n"
        self.load(text)
        self.assertEqual(self.tell_signs("save"), text)

    def test_depths_that_fit(self):
        text = text_of(
            "outline 60", "# 1 + a", "## 2 + b", "### 3 - c", "#### 4 + d", "##### 5 + e", "###### 6 - f",
            "======= 7 g", "======= 8 h", "====== 9 i", "###### 10 + j", "= 11 k", "# 12 + l", "== 13 m", "## 14 + n",
            "# 15 + o", "# 16 + p", "= 17 q", "= 18 r", "# 19 + s", "## 20 + t", "### 21 + u", "# 22 + v")
        self.load(text)
        self.assertEqual(self.tell_signs("save"), text)
        self.assertEqual(self.tell("path", 8), [7, 1, 2, 3, 4, 5, 6, 8])
        self.assertEqual(self.tell("path", 10), [6, 1, 2, 3, 4, 5, 10])
        self.assertEqual(self.tell("path", 14), [2, 12, 14])

    def test_texts_that_are_strange(self):
        text = text_of(
            "outline 9", "= 1 # 1 + x", "= 2   ", "= 3 = 3 ", "# 4 +  + ", "# 5 - - -", "= 6 + x", "= 7 " + "~" * 60,
            "# 8 - " + " " * 60)
        self.load(text)
        self.assertEqual(self.tell_signs("text", 1), "# 1 + x")
        self.assertEqual(self.tell_signs("text", 2), "  ")
        self.assertEqual(self.tell_signs("text", 4), " + ")
        self.assertEqual(self.tell_signs("text", 5), "- -")
        self.assertEqual(self.tell_signs("text", 6), "+ x")
        self.assertEqual(self.tell_signs("save"), text)

    def test_sixty_nodes(self):
        lines = ["outline 61", "# 1 + " + "x" * 60]
        for number in range(2, 61):
            lines.append(f"## {number} - " + "@" * 60)
        text = text_of(*lines)
        self.load(text)
        self.assertEqual(self.tell_signs("save"), text)
        self.assertEqual(self.tell("state"), [60, 60, 0, 61])

    def test_a_load_is_not_bound_to_its_list(self):
        self.load("outline 2\n= 1 x\n")
        self.do("write", 1, "other")
        self.load("outline 2\n= 1 x\n")
        self.assertEqual(self.tell_signs("text", 1), "x")


class FaultTest(BookTest):
    def setUp(self):
        super().setUp()
        self.build(["# kept", "== kept too"])
        self.do("fold", 1, 1)

    def fault_of_line(self, fault, place, line):
        """The line has the fault where it stands in the place of a good one, and behind it all that was good."""
        self.fault(fault, place, text_of(*GOOD[:place], line, *GOOD[place + 1:]))
        self.fault(fault, place, text_of(*GOOD[:place], line))

    def test_the_good_lines_are_good(self):
        for count in range(1, len(GOOD) + 1):
            self.load(text_of(*GOOD[:count]))

    def test_1_not_ended(self):
        self.fault(1, 0, "")
        self.fault(1, 0, "outline 1")
        self.fault(1, 0, "x")
        self.fault(1, 0, [HUGE])
        self.fault(1, 1, "outline 1\n ")
        self.fault(1, 1, "outline 1\n# 1 + x")
        self.fault(1, 4, text_of(*GOOD)[:-1])
        self.fault(1, 5, text_of(*GOOD) + "x")
        self.fault(1, 5, row_of(text_of(*GOOD)) + [-1])

    def test_2_first_line(self):
        for line in (
                "", "outline", "outline ", "outline  1", "outline 1 ", " outline 1", "Outline 1", "outlines 1",
                "outline1", "outline 01", "outline 00", "outline 0000", "outline 10000", "outline 00001", "outline -1",
                "outline +1", "outline 1x", "outline x", "outline 1\r", "outline 1 1", "outlin 1", "utline 1",
                "outline\t1", "# 1 + x", "= 1 x", "outline /", "outline :", "outline 1:", "outlinf 1", "OUTLINE 1"):
            self.fault(2, 0, line + "\n")
        self.fault(2, 0, text_of("outline 01", *GOOD[1:]))

    def test_2_later_line(self):
        for line in NOT_WRITTEN:
            self.fault(2, 1, text_of(GOOD[0], line))
        for line in NOT_WRITTEN[::3]:
            self.fault(2, 4, text_of(*GOOD[:4], line))

    def test_2_in_the_midst(self):
        self.fault_of_line(2, 2, "## 2 * B")
        self.fault_of_line(2, 3, "=== 3c")
        self.fault(2, 5, text_of(*GOOD, ""))
        self.fault(2, 5, text_of(*GOOD, "outline 50"))

    def test_2_numbers_that_are_no_bytes(self):
        for number in (-1, 256, 300, HUGE, -HUGE, 10 + 256, 10 - 256, 120 + 256):
            self.fault(2, 0, [number, 10])
            self.fault(2, 0, row_of("outline 1") + [number, 10])
            self.fault(2, 0, [number] + row_of("outline 1\n"))
            self.fault(2, 1, row_of("outline 9\n= 1 x") + [number] + row_of("y\n= 2 x\n"))
            self.fault(2, 1, row_of("outline 9\n= ") + [number] + row_of("1 x\n"))
        self.fault(2, 0, row_of("outline ") + [49 + 256, 10])
        self.fault(2, 1, row_of("outline 9\n") + [61 + 256] + row_of(" 1 x\n"))
        self.fault(2, 1, row_of("outline 9\n= 1") + [32 + 256] + row_of("x\n"))

    def test_3_first_line(self):
        for number in (0, 1001, 1002, 9999, 2000):
            self.fault(3, 0, f"outline {number}\n")
            self.fault(3, 0, text_of(f"outline {number}", *GOOD[1:]))

    def test_3_numbers_of_nodes(self):
        for number in (0, 50, 51, 999, 1000, 1001, 9999):
            self.fault_of_line(3, 1, f"# {number} + x")
            self.fault_of_line(3, 1, f"= {number} x")
            self.fault_of_line(3, 4, f"= {number} x")
        for number in (1, 2, 3):
            self.fault_of_line(3, 4, f"= {number} x")
            self.fault_of_line(3, 4, f"## {number} - x")

    def test_3_not_below_the_next_number(self):
        self.fault(3, 1, "outline 1\n= 1 x\n")
        self.fault(3, 2, "outline 2\n= 1 x\n= 2 y\n")
        self.fault(3, 1, "outline 1000\n= 1000 x\n")
        self.load("outline 1000\n= 999 x\n")

    def test_3_section_seven_deep(self):
        deep = [GOOD[0]] + ["#" * depth + f" {depth} + x" for depth in range(1, 7)]
        self.fault(3, 7, text_of(*deep, "####### 7 + x"))
        self.fault(3, 7, text_of(*deep, "####### 7 - "))
        self.fault(3, 1, text_of(GOOD[0], "####### 7 + x"))
        self.load(text_of(*deep, "======= 7 x"))

    def test_4_first_node(self):
        for line in ("## 9 + x", "== 9 x", "###### 9 - x", "======= 9 x"):
            self.fault_of_line(4, 1, line)

    def test_4_behind_a_section(self):
        self.fault_of_line(4, 2, "### 9 + x")
        self.fault_of_line(4, 2, "=== 9 x")
        self.fault_of_line(4, 3, "#### 9 + x")
        self.fault_of_line(4, 3, "======= 9 x")

    def test_4_behind_a_cell(self):
        self.fault_of_line(4, 4, "#### 9 + x")
        self.fault_of_line(4, 4, "==== 9 x")
        self.fault(4, 5, text_of(*GOOD, "== 9 x"))
        self.fault(4, 5, text_of(*GOOD, "## 9 + x"))
        self.fault(4, 5, text_of(*GOOD, "### 9 + x"))

    def test_5_sixty_before(self):
        sixty = ["outline 1000"] + [f"= {number} x" for number in range(1, 61)]
        self.fault(5, 61, text_of(*sixty, "= 61 x"))
        self.fault(5, 61, text_of(*sixty, "# 61 + x", "nothing"))
        self.fault(1, 61, text_of(*sixty) + "= 61 x")
        self.fault(2, 61, text_of(*sixty, ""))
        self.fault(3, 61, text_of(*sixty, "= 60 x"))
        self.fault(4, 61, text_of(*sixty, "== 61 x"))
        self.load(text_of(*sixty))

    def test_the_first_line_with_a_fault_tells_it(self):
        self.fault(3, 0, "outline 0\nnothing")
        self.fault(2, 0, "outline\n= 0 x\n")
        self.fault(4, 1, "outline 9\n== 1 x\n= 0 y\n")
        self.fault(3, 2, "outline 9\n= 1 x\n= 9 y\n\n")
        self.fault(2, 1, "outline 9\n\n= 1 x")
        self.fault(4, 2, "outline 9\n= 1 x\n== 2 y\nz")

    def test_the_first_fault_of_a_line(self):
        self.fault(1, 0, "outline 0")
        self.fault(1, 0, "outline 01")
        self.fault(1, 1, "outline 9\n== 0 x")
        self.fault(1, 1, "outline 9\nnothing")
        self.fault(2, 1, "outline 9\n== 0x\n")
        self.fault(2, 1, "outline 9\n== 00 x\n")
        self.fault(2, 1, "outline 9\n== 0 \x7f\n")
        self.fault(3, 1, "outline 9\n== 0 x\n")
        self.fault(3, 1, "outline 9\n####### 9 + x\n")
        self.fault(3, 2, "outline 9\n= 1 x\n== 1 x\n")
        self.fault(3, 2, "outline 9\n= 1 x\n####### 2 + x\n")

    def test_a_fault_far_below_changes_nothing(self):
        self.fault(2, 5, text_of("outline 900", *GOOD[1:], "nothing"))
        self.assertEqual(self.book.state(), ([(1, 1, 0, 1, "kept"), (2, 2, 1, 0, "kept too")], 3))
        self.assertEqual(self.do("cell", 0, 0, ""), 3)


class LongTextTest(BookTest):
    def test_line_ends(self):
        self.fault(2, 0, [10] * 10000)

    def test_one_line(self):
        self.fault(1, 0, [61] * 10000)

    def test_one_ended_line(self):
        self.fault(2, 1, row_of("outline 9\n") + [35] * 9989 + [10])

    def test_digits(self):
        self.fault(2, 0, row_of("outline ") + [49] * 9991 + [10])

    def test_sixty_nodes_and_much_behind(self):
        text = text_of("outline 61", *[f"= {number} " + "x" * 60 for number in range(1, 61)])
        self.fault(2, 61, row_of(text) + [10] * (10000 - len(text)))
        self.assertEqual(self.tell("state"), [0, 0, 0, 1])

    def test_many_good_lines(self):
        text = text_of("outline 1000", *[f"= {number} x" for number in range(1, 1000)])
        self.fault(5, 61, text[:10000])
