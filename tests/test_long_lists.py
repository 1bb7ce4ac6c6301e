"""Long lists of calls, and spoilt texts to load, held against an outline that is kept as nested lists."""

import random
import unittest

from outlinebook.outline import answers
from tests.helper import HUGE, Book, Model, row_of, state_of

CHANGING = (
    "section", "section", "section", "cell", "cell", "write", "move", "move", "drop", "dissolve", "promote",
    "demote", "demote", "wrap", "raise", "sort", "copy", "copy", "fold", "foldFrom", "reveal")
TELLING = (
    "order", "view", "label", "find", "text", "shown", "contents", "info", "path", "references", "referring", "broken",
    "search", "step", "step", "save", "state")
REFUSALS = {
    "copy": (-1, -2, -4, -5, -14), "wrap": (-1, -10, -3, -4, -5), "label": (-1,), "find": (-13,), "text": (-1,),
    "shown": (-1,), "contents": (-12,), "info": (-1,), "path": (-1,), "references": (-1,), "referring": (-1,),
    "step": (-1, -16, -15)}
PIECES = ("@", "@@", "@1", "@2", "@12", "@0", "@999", "a", "b", " ", "7", "~")


class Caller:
    """Draws calls that mostly fit the outline as it is."""

    def __init__(self, seed, dropping, telling=0.4):
        self.random = random.Random(seed)
        self.dropping = dropping
        self.telling = telling

    def number(self, model):
        known = [node["number"] for node in model.every()]
        if known and self.random.random() < 0.95:
            return self.random.choice(known)
        return self.random.choice((0, -1, 998, 999, 1000, HUGE, -HUGE, len(known) + 1))

    def place(self, model):
        homes = [node for node in [model.top] + model.every() if not node["cell"]]
        if self.random.random() < 0.08:
            return (self.number(model), self.number(model))
        home = self.random.choice(homes)
        after = self.random.choice([0] + [child["number"] for child in home["children"]])
        return (home["number"], after)

    def row(self, model):
        chance = self.random.random()
        if chance < 0.04:
            return self.random.choice(([31], [127], [65] * 61, [HUGE], [-1, 65]))
        if chance < 0.1:
            return row_of(f"@{self.number(model)}".ljust(60, "."))[:60]
        text = ""
        for piece in range(self.random.randrange(5)):
            text += self.random.choice(PIECES + (f"@{self.number(model)}",))
        return row_of(text)[:60]

    def siblings(self, model):
        if not model.every() or self.random.random() < 0.3:
            return (self.number(model), self.number(model))
        home = model.parent(self.random.choice(model.every()))
        numbers = [child["number"] for child in home["children"]]
        start = self.random.randrange(len(numbers))
        return (numbers[start], self.random.choice(numbers[start:]))

    def label(self, model):
        labels = list(model.labels().values())
        if labels and self.random.random() < 0.7:
            return row_of(self.random.choice(labels))
        return self.random.choice(([], [49], row_of("1.2"), row_of("#3"), [49 + 256], [-HUGE]))

    def run(self, model):
        """Bytes to search for: mostly some that stand in a shown text."""
        if not model.every() or self.random.random() < 0.2:
            return self.random.choice(([], [256], row_of("@"), row_of("?"), row_of("1."), [97, -1]))
        shown = model.shown(self.random.choice(model.every()))
        start = self.random.randrange(len(shown) + 1)
        return row_of(shown[start:start + self.random.randrange(1, 5)])

    def text(self, model):
        """The outline's text, often spoilt at some places."""
        text = model.saved()
        for spoiling in range(self.random.choice((0, 1, 1, 1, 2))):
            text = self.spoilt(text)
        row = row_of(text)
        if row and self.random.random() < 0.1:
            row[self.random.randrange(len(row))] = self.random.choice((-1, 256, HUGE, 266))
        return row

    def spoilt(self, text):
        lines = text.splitlines(keepends=True)
        place = self.random.randrange(len(lines) + 1)
        way = self.random.randrange(8)
        if way == 0:
            return text[:self.random.randrange(len(text) + 1)]
        if way == 1:
            spot = self.random.randrange(len(text) + 1)
            return text[:spot] + self.random.choice("\n #=+-0123x~\x7f") + text[spot + self.random.randrange(2):]
        if way == 2:
            return "".join(lines[:place] + lines[place + 1:])
        if way == 3 and lines:
            return "".join(lines[:place] + [self.random.choice(lines)] + lines[place:])
        if way == 4 and lines:
            number = self.random.choice((0, 1, 2, 50, 999, 1000, 1001, 10000, "01"))
            return f"outline {number}\n" + "".join(lines[1:])
        if way == 5:
            line = self.random.choice("#=") * self.random.randrange(1, 9)
            mark = self.random.choice((" + ", " - ", " ", " * ", "  "))
            line += f" {self.random.randrange(1, 999)}{mark}new\n"
            return "".join(lines[:place] + [line] + lines[place:])
        if way == 6:
            more = [f"= {number} more\n" for number in range(900, 900 + 65 - len(lines))]
            return "outline 999\n" + "".join(lines[1:] + more)
        return "".join(self.random.sample(lines, len(lines)))

    def call(self, model):
        """A call that changes the outline or one that tells of it; now and then a load."""
        chance = self.random.random()
        if chance < self.telling / 20:
            return ("load", self.text(model))
        return self.telling_call(model) if chance < self.telling else self.changing_call(model)

    def telling_call(self, model):
        name = self.random.choice(TELLING)
        if name in ("order", "view", "broken", "save", "state"):
            return (name,)
        if name == "find":
            return (name, self.label(model))
        if name == "search":
            return (name, self.run(model))
        if name == "contents":
            return (name, self.random.randrange(9))
        if name == "step":
            return (name, self.number(model), self.random.choice((1, 1, -1, -1, 0, 2)))
        return (name, self.number(model))

    def changing_call(self, model):
        name = self.random.choice(CHANGING)
        if name == "drop" and self.random.random() > self.dropping:
            name = "copy"
        if name in ("section", "cell"):
            return (name, *self.place(model), self.row(model))
        if name == "write":
            return (name, self.number(model), self.row(model))
        if name in ("move", "copy"):
            return (name, self.number(model), *self.place(model))
        if name == "wrap":
            return (name, *self.siblings(model), self.row(model))
        if name == "sort":
            return (name, self.random.choice((0, self.number(model))))
        if name == "fold":
            return (name, self.number(model), self.random.choice((0, 1, 1, 2, -1)))
        if name == "foldFrom":
            return (name, self.random.randrange(9))
        return (name, self.number(model))


class LongListTest(unittest.TestCase):
    def run_list(self, seed, dropping, telling, met):
        caller = Caller(seed, dropping, telling)
        book = Book()
        model = Model()
        for count in range(200):
            call = caller.call(model)
            said = f"seed {seed}, call {count}: {call}"
            expected = model.do(*call)
            self.assertEqual(book.do(*call), expected, said)
            self.assertEqual(state_of(book.outline), model.state(), said)
            if call[0] == "load":
                met.add(("load", expected if expected == 0 else expected[0]))
            else:
                met.add((call[0], expected if isinstance(expected, int) and expected < 0 else 0))
        handed = list(book.numbers)
        self.assertEqual(answers(handed), book.told)
        self.assertEqual(handed, book.numbers)

    def test_growing_and_shrinking(self):
        met = set()
        for seed in range(90):
            self.run_list(seed, (0.1, 0.5, 1)[seed % 3], (0.1, 0.4)[seed % 2], met)
        for name in CHANGING + TELLING:
            self.assertIn((name, 0), met)
        for name, refusals in REFUSALS.items():
            for refusal in refusals:
                self.assertIn((name, refusal), met)
        for fault in range(6):
            self.assertIn(("load", fault), met)

    def test_spoilt_texts(self):
        met = {}
        for seed in range(400):
            caller = Caller(seed, 0.2)
            model = Model()
            for count in range(seed % 40):
                model.do(*caller.changing_call(model))
            text = caller.text(model)
            book = Book()
            expected = model.do("load", text)
            self.assertEqual(book.do("load", text), expected, (seed, text))
            if expected == 0:
                self.assertEqual(state_of(book.outline), model.state(), seed)
                self.assertEqual(book.do("save"), [len(text)] + text, seed)
            else:
                self.assertEqual(state_of(book.outline), ([], 1), seed)
            fault = expected if expected == 0 else expected[0]
            met[fault] = met.get(fault, 0) + 1
        self.assertEqual(sorted(met), [0, 1, 2, 3, 4, 5])


if __name__ == "__main__":
    unittest.main()
