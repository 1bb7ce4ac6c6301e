"""Texts and the references in them, as the chapter "Words" tells them."""

import unittest

from outlinebook.texts import is_text, parts_of, references_in, renumbered, shown
from tests.helper import row_of


class TextTest(unittest.TestCase):
    def test_bytes(self):
        for byte in range(-1, 258):
            self.assertEqual(is_text([byte]), 32 <= byte <= 126, byte)
            self.assertEqual(is_text([65] * 59 + [byte]), 32 <= byte <= 126, byte)

    def test_lengths(self):
        for length in (0, 1, 59, 60, 61, 200):
            self.assertEqual(is_text([65] * length), length <= 60, length)


class ReferenceTest(unittest.TestCase):
    def numbers(self, text):
        return [number for start, end, number in references_in(row_of(text))]

    def test_numbers(self):
        self.assertEqual(self.numbers("see @12, @7 @@@x@0"), [12, 7])
        self.assertEqual(self.numbers("@1@22@333@4444@90909"), [1, 22, 333, 444, 909])
        self.assertEqual(self.numbers("@10 @100 @1000 @999 @9990"), [10, 100, 100, 999, 999])

    def test_no_reference(self):
        for text in ("", "@", "@@", "@@1", "@@@@1", "@0", "@01", "@ 1", "@a1", "@/", "@:", "@-1", "12", "1@", "a@@9"):
            self.assertEqual(references_in(row_of(text)), [], text)

    def test_behind_two_signs(self):
        self.assertEqual(references_in(row_of("@@@1")), [(3, 4, 1)])
        self.assertEqual(references_in(row_of("@1@@2@3")), [(1, 2, 1), (6, 7, 3)])

    def test_thirty(self):
        self.assertEqual(self.numbers("@1" * 30), [1] * 30)

    def test_renumbered(self):
        text = row_of("a@1@2@12@123@1234@@1@")
        self.assertEqual(renumbered(text, {1: 10, 12: 13, 123: 456}), row_of("a@10@2@13@456@4564@@1@"))
        self.assertEqual(text, row_of("a@1@2@12@123@1234@@1@"))
        self.assertEqual(renumbered(text, {}), text)

    def test_parts_are_the_whole_text(self):
        for text in ("", "@", "@@", "a@@@12b@0@", "@1234@@@@5", "@999@"):
            row = row_of(text)
            joined = []
            for start, end, number in parts_of(row):
                self.assertEqual(start, len(joined))
                joined += row[start:end]
            self.assertEqual(joined, row)

    def test_shown(self):
        labels = {12: row_of("2.1"), 1: row_of("#10")}
        row = row_of("see @12, @7 @@@x@0")
        self.assertEqual(shown(row, labels), row_of("see 2.1, ? @@x@0"))
        self.assertEqual(row, row_of("see @12, @7 @@@x@0"))
        self.assertEqual(shown(row_of("@1@1@123@@1"), labels), row_of("#10#10?@1"))
        self.assertEqual(labels, {12: row_of("2.1"), 1: row_of("#10")})
