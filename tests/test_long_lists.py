"""Long lists of calls, held against an outline that is kept as nested lists."""

import random
import unittest

from outlinebook.outline import answers
from tests.helper import HUGE, Book, Model, row_of, state_of

NAMES = (
    "section", "section", "section", "cell", "cell", "write", "move", "move", "drop", "dissolve", "promote",
    "demote", "demote", "wrap", "raise", "sort", "copy", "copy", "fold", "foldFrom", "reveal", "order")
PIECES = ("@", "@@", "@1", "@2", "@12", "@0", "@999", "a", "b", " ", "7", "~")


class Caller:
    """Draws calls that mostly fit the outline as it is."""

    def __init__(self, seed, dropping):
        self.random = random.Random(seed)
        self.dropping = dropping

    def number(self, model):
        known = [node["number"] for node in model.every()]
        if known and self.random.random() < 0.95:
            return self.random.choice(known)
        return self.random.choice((0, -1, 998, 999, 1000, HUGE, -HUGE, len(known) + 1))

    def place(self, model):
        homes = [node for node in [model.top] + model.every() if not node["cell"]]
        if self.random.random() < 0.08:
            return (self.number(model), self.number(model))
        home = self.random.choice(homes)
        after = self.random.choice([0] + [child["number"] for child in home["children"]])
        return (home["number"], after)

    def row(self, model):
        chance = self.random.random()
        if chance < 0.04:
            return self.random.choice(([31], [127], [65] * 61, [HUGE], [-1, 65]))
        if chance < 0.1:
            return row_of(f"@{self.number(model)}".ljust(60, "."))[:60]
        text = ""
        for piece in range(self.random.randrange(5)):
            text += self.random.choice(PIECES + (f"@{self.number(model)}",))
        return row_of(text)[:60]

    def siblings(self, model):
        if not model.every() or self.random.random() < 0.3:
            return (self.number(model), self.number(model))
        home = model.parent(self.random.choice(model.every()))
        numbers = [child["number"] for child in home["children"]]
        start = self.random.randrange(len(numbers))
        return (numbers[start], self.random.choice(numbers[start:]))

    def call(self, model):
        name = self.random.choice(NAMES)
        if name == "drop" and self.random.random() > self.dropping:
            name = "copy"
        if name in ("section", "cell"):
            return (name, *self.place(model), self.row(model))
        if name == "write":
            return (name, self.number(model), self.row(model))
        if name in ("move", "copy"):
            return (name, self.number(model), *self.place(model))
        if name == "wrap":
            return (name, *self.siblings(model), self.row(model))
        if name == "sort":
            return (name, self.random.choice((0, self.number(model))))
        if name == "fold":
            return (name, self.number(model), self.random.choice((0, 1, 1, 2, -1)))
        if name == "foldFrom":
            return (name, self.random.randrange(9))
        return (name,) if name == "order" else (name, self.number(model))


class LongListTest(unittest.TestCase):
    def run_list(self, seed, dropping, met):
        caller = Caller(seed, dropping)
        book = Book()
        model = Model()
        for count in range(200):
            call = caller.call(model)
            said = f"seed {seed}, call {count}: {call}"
            expected = model.do(*call)
            self.assertEqual(book.do(*call), expected, said)
            self.assertEqual(state_of(book.outline), model.state(), said)
            met.add((call[0], expected if isinstance(expected, int) and expected < 0 else 0))
        handed = list(book.numbers)
        self.assertEqual(answers(handed), book.told)
        self.assertEqual(handed, book.numbers)

    def test_growing_and_shrinking(self):
        met = set()
        for seed in range(60):
            self.run_list(seed, (0.1, 0.5, 1)[seed % 3], met)
        for name in set(NAMES):
            self.assertIn((name, 0), met)
        for refusal in (-1, -2, -4, -5, -14):
            self.assertIn(("copy", refusal), met)
        for refusal in (-1, -10, -3, -4, -5):
            self.assertIn(("wrap", refusal), met)


if __name__ == "__main__":
    unittest.main()
