"""Points 11 (text, shown), 12 and 15: text, shown, contents, search, and the chapter "Words" on references."""

from tests.helper import HUGE, NO_NUMBERS, BookTest, row_of

PLAN = ["# A", "== see @3", "## C @1", "# D @2@9", "= "]


class TextTest(BookTest):
    def test_as_it_is(self):
        self.build(PLAN)
        self.assertEqual(self.tell("text", 1), [1, 65])
        self.assertEqual(self.tell_signs("text", 2), "see @3")
        self.assertEqual(self.tell_signs("text", 4), "D @2@9")
        self.assertEqual(self.tell("text", 5), [0])

    def test_written_anew(self):
        self.build(PLAN)
        self.do("write", 2, "@@ @1 @")
        self.assertEqual(self.tell_signs("text", 2), "@@ @1 @")

    def test_every_byte(self):
        self.do("cell", 0, 0, list(range(32, 92)))
        self.do("cell", 0, 0, list(range(67, 127)))
        self.assertEqual(self.tell_row("text", 1), list(range(32, 92)))
        self.assertEqual(self.tell_row("text", 2), list(range(67, 127)))

    def test_no_node(self):
        self.build(PLAN)
        for number in NO_NUMBERS + (6,):
            self.refused(-1, "text", number)


class ShownTest(BookTest):
    def show(self, text):
        """What the text shows where node 1 has it."""
        self.assertEqual(self.do("write", 1, text), 0)
        shown = self.tell_signs("shown", 1)
        self.assertEqual(self.tell_signs("text", 1), text)
        return shown

    def test_as_in_the_document(self):
        self.load("outline 13\n# 1 + A\n# 2 + B\n## 12 + C\n= 3 see @12, @7 @@@x@0\n")
        self.assertEqual(self.tell_signs("label", 12), "2.1")
        self.assertEqual(self.tell_signs("shown", 3), "see 2.1, ? @@x@0")

    def test_plain(self):
        self.build(PLAN)
        for text in ("", " ", "plain", "~" * 60, "1.1 #1 ?"):
            self.assertEqual(self.show(text), text)

    def test_sections_and_cells(self):
        self.build(PLAN)
        self.assertEqual(self.show("@1,@2,@3,@4,@5,@6"), "1,#1,1.1,2,#2,?")
        self.assertEqual(self.show("@1@2@3@4@5@6"), "1#11.12#2?")

    def test_one_to_four_digits(self):
        self.load("outline 1000\n= 1 \n# 2 + two\n# 12 + twelve\n# 123 + more\n= 999 last\n")
        self.assertEqual(self.show("@1 @2 @12 @123 @999"), "#1 1 2 3 #2")
        self.assertEqual(self.show("@1234"), "34")
        self.assertEqual(self.show("@12a @12.3 @12@123"), "2a 2.3 23")
        self.assertEqual(self.show("@120 @124 @99 @13"), "? ? ? ?")
        self.assertEqual(self.show("@9999 @99999 @9990"), "#29 #299 #20")
        self.assertEqual(self.show("@1000 @1230"), "?0 30")

    def test_signs_that_are_no_reference(self):
        self.build(PLAN)
        self.assertEqual(self.show("@"), "@")
        self.assertEqual(self.show("x@"), "x@")
        self.assertEqual(self.show("@1@"), "1@")
        self.assertEqual(self.show("@0 @01 @00"), "@0 @01 @00")
        self.assertEqual(self.show("@a @ 1 @-1 @/ @: @.1"), "@a @ 1 @-1 @/ @: @.1")
        self.assertEqual(self.show("1@ 2"), "1@ 2")

    def test_two_signs_show_one(self):
        self.build(PLAN)
        self.assertEqual(self.show("@@"), "@")
        self.assertEqual(self.show("@@1"), "@1")
        self.assertEqual(self.show("@@@1"), "@1")
        self.assertEqual(self.show("@@@4"), "@2")
        self.assertEqual(self.show("@@@"), "@@")
        self.assertEqual(self.show("@@@@"), "@@")
        self.assertEqual(self.show("@@@@4@@@4"), "@@4@2")
        self.assertEqual(self.show("@4@@4"), "2@4")
        self.assertEqual(self.show("@" * 60), "@" * 30)

    def test_what_is_shown_is_not_gone_through_again(self):
        self.build(PLAN)
        self.assertEqual(self.show("@@4"), "@4")
        self.assertEqual(self.show("@@@@@4"), "@@2")
        self.assertEqual(self.show("@@1@44"), "@1?")

    def test_follows_the_labels(self):
        self.build(PLAN)
        self.assertEqual(self.tell_signs("shown", 2), "see 1.1")
        self.do("move", 3, 4, 0)
        self.assertEqual(self.tell_signs("shown", 2), "see 2.1")
        self.do("wrap", 1, 1, "")
        self.do("move", 3, 0, 4)
        self.assertEqual(self.tell_signs("shown", 2), "see 3")
        self.do("drop", 3)
        self.assertEqual(self.tell_signs("shown", 2), "see ?")
        self.assertEqual(self.tell_signs("text", 2), "see @3")

    def test_a_dropped_number_stays_broken(self):
        self.build(PLAN)
        self.do("drop", 3)
        self.do("section", 1, 0, "new")
        self.assertEqual(self.tell_signs("shown", 2), "see ?")

    def test_in_a_copy(self):
        self.build(["# A", "== @1 @2 @3", "# C"])
        self.do("copy", 1, 0, 3)
        self.assertEqual(self.tell_signs("shown", 2), "1 #1 2")
        self.assertEqual(self.tell_signs("shown", 5), "3 #2 2")

    def test_longest(self):
        self.chain(6)
        self.do("write", 1, "@6" * 30)
        self.assertEqual(self.tell_signs("shown", 1), "1.1.1.1.1.1" * 30)

    def test_no_node(self):
        self.build(PLAN)
        for number in NO_NUMBERS + (6,):
            self.refused(-1, "shown", number)


class ContentsTest(BookTest):
    def contents(self, depth):
        """What contents tells, as rows of number, label and shown title."""
        told = self.tell("contents", depth)
        rows = []
        place = 1
        while place < len(told):
            label_end = place + 2 + told[place + 1]
            title_end = label_end + 1 + told[label_end]
            self.assertLessEqual(title_end, len(told))
            label, title = told[place + 2:label_end], told[label_end + 1:title_end]
            rows.append((told[place], "".join(map(chr, label)), "".join(map(chr, title))))
            place = title_end
        self.assertEqual(len(rows), told[0])
        return rows

    def test_empty(self):
        self.assertEqual(self.tell("contents", 1), [0])
        self.assertEqual(self.tell("contents", 7), [0])
        self.build(["= a"])
        self.assertEqual(self.tell("contents", 7), [0])

    def test_number_by_number(self):
        self.build(PLAN)
        self.assertEqual(self.tell("contents", 1), [2, 1, 1, 49, 1, 65, 4, 1, 50, 5, 68, 32, 35, 49, 63])

    def test_by_depth(self):
        self.build(["# A", "## B", "### C", "== d", "## E", "# F @3"])
        self.assertEqual(self.contents(1), [(1, "1", "A"), (6, "2", "F 1.1.1")])
        self.assertEqual(self.contents(2), [(1, "1", "A"), (2, "1.1", "B"), (5, "1.2", "E"), (6, "2", "F 1.1.1")])
        for depth in (3, 4, 5, 6, 7):
            self.assertEqual(self.contents(depth), [
                (1, "1", "A"), (2, "1.1", "B"), (3, "1.1.1", "C"), (5, "1.2", "E"), (6, "2", "F 1.1.1")])

    def test_folded_or_not(self):
        self.build(["# A", "## B"])
        self.do("foldFrom", 1)
        self.assertEqual(self.contents(2), [(1, "1", "A"), (2, "1.1", "B")])

    def test_empty_title(self):
        self.build(["# ", "## @@"])
        self.assertEqual(self.tell("contents", 2), [2, 1, 1, 49, 0, 2, 3, 49, 46, 49, 1, 64])

    def test_six_deep(self):
        self.chain(6)
        self.do("cell", 6, 0, "")
        for depth in range(1, 7):
            self.assertEqual(len(self.contents(depth)), depth)
        self.assertEqual(self.contents(7), self.contents(6))
        self.assertEqual(self.contents(6)[5], (6, "1.1.1.1.1.1", "s6"))

    def test_sixty_titles_full_of_references(self):
        # Each depth has ten sections, the last of them with the next ten in it.
        lines = ["outline 61\n"]
        for number in range(1, 61):
            lines.append("#" * ((number + 9) // 10) + f" {number} + {'@60' * 20}\n")
        self.load("".join(lines))
        rows = self.contents(7)
        self.assertEqual(rows[59], (60, "10.10.10.10.10.10", "10.10.10.10.10.10" * 20))
        self.assertEqual({title for number, label, title in rows}, {"10.10.10.10.10.10" * 20})
        self.assertEqual(len(rows), 60)

    def test_refusals(self):
        self.build(PLAN)
        for depth in (0, 8, -1, HUGE, -HUGE):
            self.refused(-12, "contents", depth)


class SearchTest(BookTest):
    def test_shown_texts(self):
        self.build(["# Alpha", "== see @1.", "= al", "# beta @3 alpha"])
        self.assertEqual(self.tell("search", "al"), [2, 3, 4])
        self.assertEqual(self.tell_row("search", "lpha"), [1, 4])
        self.assertEqual(self.tell_row("search", "see 1."), [2])
        self.assertEqual(self.tell_row("search", "@"), [])
        self.assertEqual(self.tell_row("search", "#2"), [4])
        self.assertEqual(self.tell_row("search", "Alpha"), [1])
        self.assertEqual(self.tell_row("search", "alphabet"), [])

    def test_across_what_is_shown(self):
        self.build(["# a@2b", "## x", "= @@1 @9"])
        self.assertEqual(self.tell_row("search", "a1.1b"), [1])
        self.assertEqual(self.tell_row("search", "1b"), [1])
        self.assertEqual(self.tell_row("search", "@1"), [3])
        self.assertEqual(self.tell_row("search", "@@"), [])
        self.assertEqual(self.tell_row("search", "?"), [3])
        self.assertEqual(self.tell_row("search", "9"), [])

    def test_reading_order(self):
        self.build(["= x", "# x", "== x"])
        self.do("raise", 2)
        self.assertEqual(self.tell_row("search", "x"), [2, 3, 1])

    def test_beginning_end_and_whole(self):
        self.build(["= abcab"])
        for run in ("a", "ab", "abcab", "cab", "b", "bca"):
            self.assertEqual(self.tell_row("search", run), [1], run)
        for run in ("abcabc", "ba", "aa", "abb", "xabcab", " "):
            self.assertEqual(self.tell_row("search", run), [], run)

    def test_a_false_beginning(self):
        self.build(["= aaab", "= ababac"])
        self.assertEqual(self.tell_row("search", "aab"), [1])
        self.assertEqual(self.tell_row("search", "abac"), [2])

    def test_none_told(self):
        self.assertEqual(self.tell("search", ""), [0])
        self.build(["# ", "== x", "= "])
        self.assertEqual(self.tell("search", ""), [3, 1, 2, 3])

    def test_numbers_that_are_no_bytes(self):
        self.build(["= abc", "# "])
        for run in ([-1], [256], [HUGE], [-HUGE], [97 + 256], [97, 98 + 256], [97 - 256], [97, -1], [-1, 97], [0], [255]):
            self.assertEqual(self.tell_row("search", run), [], run)
        self.assertEqual(self.tell_row("search", [HUGE] * 200), [])
        self.assertEqual(self.tell_row("search", [97, 98, 99]), [1])

    def test_hidden_ones_too(self):
        self.build(["# A", "== x"])
        self.do("fold", 1, 1)
        self.assertEqual(self.tell_row("search", "x"), [2])

    def test_longer_than_sixty(self):
        self.chain(6)
        self.do("write", 1, "@6" * 30)
        self.assertEqual(self.tell_row("search", row_of("1.1.1.1.1.1" * 18)), [1])
        self.assertEqual(self.tell_row("search", "1" * 60), [])

    def test_sixty(self):
        self.fill(60)
        self.assertEqual(len(self.tell_row("search", "")), 60)
