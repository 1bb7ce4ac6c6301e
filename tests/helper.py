"""What the tests share: writing calls, an outline to call, and a second outline kept as nested lists."""

import re
import unittest

from outlinebook.calls import read_calls
from outlinebook.nodes import Outline
from outlinebook.outline import answer_to, answers

# Written apart from the program's own table, so that each checks the other.
NUMBERS = {
    "section": 0, "cell": 1, "write": 2, "move": 3, "drop": 4, "dissolve": 5, "promote": 6, "demote": 7,
    "wrap": 8, "raise": 9, "sort": 10, "copy": 11, "fold": 12, "foldFrom": 13, "reveal": 14, "order": 15,
    "view": 16, "label": 17, "find": 18, "text": 19, "shown": 20, "contents": 21, "info": 22, "path": 23,
    "references": 24, "referring": 25, "broken": 26, "search": 27, "step": 28, "save": 29, "load": 30,
    "state": 31,
}
HUGE = 10 ** 18
NO_NUMBERS = (0, -1, 77, 999, 1000, HUGE, -HUGE)
REFERENCE = re.compile("@@|@([1-9][0-9]{0,2})")
WRITTEN_NUMBER = "(0|[1-9][0-9]{0,3})"
FIRST_LINE = re.compile(f"outline {WRITTEN_NUMBER}\n")
NODE_LINE = re.compile(
    f"(?:(#{{1,7}}) {WRITTEN_NUMBER} ([+-]) |(={{1,7}}) {WRITTEN_NUMBER} )([ -~]{{0,60}})\n")


def row_of(text):
    """A row of numbers from a str or a list."""
    return [ord(sign) for sign in text] if isinstance(text, str) else list(text)


def written(name, *arguments):
    """The call as the interface writes it: whole numbers as they are, a str or list as a row."""
    numbers = [NUMBERS[name]]
    for argument in arguments:
        if isinstance(argument, int):
            numbers.append(argument)
        else:
            row = row_of(argument)
            numbers.append(len(row))
            numbers.extend(row)
    return numbers


def split_answers(told):
    """The answers of a list that the program gave back, one list each."""
    found = []
    position = 0
    while position < len(told):
        end = position + 1 + told[position]
        assert end <= len(told), "the last answer is cut off"
        found.append(told[position + 1:end])
        position = end
    return found


def alone(answer):
    """The answer's number if it is alone, else the answer."""
    return answer[0] if len(answer) == 1 else answer


def counted(told):
    """How many, then they."""
    return [len(told)] + list(told)


def signs_of(row):
    """A str from a row of bytes."""
    return "".join(map(chr, row))


def signs_with_strangers(row):
    """A str from a row of any numbers, where each that is no byte is a sign that no text has."""
    return "".join(chr(number) if 0 <= number <= 255 else "\uffff" for number in row)


def state_of(outline):
    """All that the outline holds, as values."""
    rows = [(node.number, node.depth, node.cell, node.folded, signs_of(node.text)) for node in outline.nodes]
    return rows, outline.next_number


class Book:
    """One outline that is called call by call, with all that was called and answered."""

    def __init__(self):
        self.outline = Outline()
        self.numbers = []
        self.told = []

    def do(self, name, *arguments):
        """The answer to one call: a number if it is alone, else the list."""
        numbers = written(name, *arguments)
        calls = read_calls(numbers)
        assert len(calls) == 1, "one call was read as another count"
        answer = answer_to(self.outline, calls[0])
        self.numbers += numbers
        self.told += counted(answer)
        return alone(answer)

    def state(self):
        return state_of(self.outline)

    def shape(self):
        """The numbers and depths that order tells, as pairs."""
        told = self.do("order")
        told = told if isinstance(told, list) else [told]
        assert len(told) == 1 + 2 * told[0]
        return list(zip(told[1::2], told[2::2]))

    def texts(self):
        return {row[0]: row[4] for row in self.state()[0]}

    def marks(self):
        return {row[0]: row[3] for row in self.state()[0] if row[2] == 0}


class BookTest(unittest.TestCase):
    """A test whose calls are also handed to answers as one list, at its end."""

    def setUp(self):
        self.book = Book()
        self.do = self.book.do

    def tearDown(self):
        if self.book.numbers:
            self.assertLessEqual(len(read_calls(self.book.numbers)), 200)
            self.assertLessEqual(len(self.book.numbers), 16000)
            handed = list(self.book.numbers)
            for time in range(2):
                self.assertEqual(answers(handed), self.book.told)
                self.assertEqual(handed, self.book.numbers)

    def refused(self, refusal, name, *arguments):
        """The call answers the refusal alone and leaves everything as it was."""
        before = self.book.state()
        self.assertEqual(self.do(name, *arguments), refusal, (name, arguments))
        self.assertEqual(self.book.state(), before, (name, arguments))

    def tell(self, name, *arguments):
        """The answer, always as a list, to a call that leaves everything as it was."""
        before = self.book.state()
        answer = self.do(name, *arguments)
        self.assertEqual(self.book.state(), before, (name, arguments))
        return answer if isinstance(answer, list) else [answer]

    def tell_row(self, name, *arguments):
        """What such a call tells behind how many it is, as a list."""
        answer = self.tell(name, *arguments)
        self.assertEqual(answer[0], len(answer) - 1, (name, arguments))
        return answer[1:]

    def tell_signs(self, name, *arguments):
        """The bytes that such a call tells, as a str."""
        return signs_of(self.tell_row(name, *arguments))

    def labels(self):
        """Each node's label as a str, by its number in reading order."""
        return {number: self.tell_signs("label", number) for number, depth in self.book.shape()}

    def load(self, text):
        """Load a text without fault."""
        self.assertEqual(self.do("load", text), 0, text)

    def fault(self, fault, line, text):
        """The text has the fault at the line, and the call load leaves everything as it was."""
        self.assertEqual(self.tell("load", text), [fault, line], text)

    def build(self, plan):
        """Nodes from rows such as '# A', '## B', '= text' (as many signs as the depth), behind all that are there."""
        last = {0: 0}
        behind = {0: ([0] + [row[0] for row in self.book.state()[0] if row[1] == 1])[-1]}
        for line in plan:
            signs, blank, text = line.partition(" ")
            depth = len(signs)
            parent = last[depth - 1]
            name = "section" if signs[0] == "#" else "cell"
            number = self.do(name, parent, behind.get(parent, 0), text)
            self.assertGreater(number, 0, line)
            behind[parent] = number
            last[depth] = number

    def chain(self, depth):
        """Sections 1 to depth, each in the one before."""
        for parent in range(depth):
            self.assertEqual(self.do("section", parent, 0, f"s{parent + 1}"), parent + 1)

    def fill(self, count):
        """Top cells, put in first, until there are count nodes."""
        while len(self.book.outline.nodes) < count:
            self.assertGreater(self.do("cell", 0, 0, ""), 0)

    def use_up(self, upcoming):
        """Bring the next number to upcoming, and leave the outline otherwise as it is."""
        before = self.book.state()[0]
        # Copies of a pattern use many numbers with few calls.
        size = min(28, (60 - len(before)) // 2, (upcoming - self.book.outline.next_number) // 4)
        if size > 1:
            pattern = self.do("section", 0, 0, "")
            for count in range(size - 1):
                self.do("cell", pattern, 0, "")
            while self.book.outline.next_number + size <= upcoming:
                self.do("drop", self.do("copy", pattern, 0, 0))
            self.do("drop", pattern)
        while self.book.outline.next_number < upcoming:
            self.do("drop", self.do("cell", 0, 0, ""))
        self.assertEqual(self.book.state(), (before, upcoming))


class Model:
    """The same calls on an outline of nested lists, written from the document apart from the program."""

    def __init__(self):
        self.top = {"number": 0, "cell": False, "folded": 0, "text": "", "children": []}
        self.upcoming = 1

    def trees(self, node):
        found = [node]
        for child in node["children"]:
            found += self.trees(child)
        return found

    def every(self):
        return self.trees(self.top)[1:]

    def get(self, number):
        return next((node for node in self.every() if node["number"] == number), None)

    def section_or_top(self, number):
        node = self.top if number == 0 else self.get(number)
        return None if node is None or node["cell"] else node

    def parent(self, node):
        return next(other for other in self.trees(self.top) if any(child is node for child in other["children"]))

    def depth(self, node):
        return 0 if node is self.top else 1 + self.depth(self.parent(node))

    def place(self, parent, after):
        home = self.section_or_top(parent)
        if home is None:
            return None
        numbers = [0] + [child["number"] for child in home["children"]]
        return (home, numbers.index(after)) if after in numbers else None

    def height(self, node):
        """How many sections lie one in another in the node's tree at most."""
        if node["cell"]:
            return 0
        return 1 + max([self.height(child) for child in node["children"]], default=0)

    def new(self, cell, text):
        node = {"number": self.upcoming, "cell": cell, "folded": 0, "text": text, "children": []}
        self.upcoming += 1
        return node

    def is_text(self, row):
        return len(row) <= 60 and set(row) <= set(range(32, 127))

    def fits(self, home, node):
        return self.height(node) == 0 or self.depth(home) + self.height(node) <= 6

    def state(self):
        rows = []
        for node in self.every():
            text = signs_of(node["text"])
            rows.append((node["number"], self.depth(node), int(node["cell"]), node["folded"], text))
        return rows, self.upcoming

    def do(self, name, *arguments):
        return getattr(self, "call_" + name)(*arguments)

    def call_section(self, parent, after, title):
        return self.add(False, parent, after, title)

    def call_cell(self, parent, after, text):
        return self.add(True, parent, after, text)

    def add(self, cell, parent, after, text):
        place = self.place(parent, after)
        if place is None:
            return -2
        if not self.is_text(text):
            return -3
        if len(self.every()) == 60:
            return -4
        if not cell and self.depth(place[0]) == 6:
            return -5
        if self.upcoming > 999:
            return -6
        node = self.new(cell, text)
        place[0]["children"].insert(place[1], node)
        return node["number"]

    def call_write(self, number, text):
        node = self.get(number)
        if node is None:
            return -1
        if not self.is_text(text):
            return -3
        node["text"] = text
        return 0

    def call_move(self, number, parent, after):
        node = self.get(number)
        if node is None:
            return -1
        if parent in [other["number"] for other in self.trees(node)]:
            return -8
        home = self.parent(node)
        index = [child["number"] for child in home["children"]].index(number)
        home["children"].pop(index)
        place = self.place(parent, after)
        answer = -2 if place is None else 0 if self.fits(place[0], node) else -5
        if answer == 0:
            place[0]["children"].insert(place[1], node)
        else:
            home["children"].insert(index, node)
        return answer

    def call_drop(self, number):
        node = self.get(number)
        if node is None:
            return -1
        home = self.parent(node)
        home["children"] = [child for child in home["children"] if child is not node]
        return len(self.trees(node))

    def call_dissolve(self, number):
        node = self.get(number)
        if node is None:
            return -1
        if node["cell"]:
            return -7
        children = self.parent(node)["children"]
        index = [child["number"] for child in children].index(number)
        children[index:index + 1] = node["children"]
        return len(node["children"])

    def call_promote(self, number):
        node = self.get(number)
        if node is None:
            return -1
        home = self.parent(node)
        if home is self.top:
            return -9
        return self.call_move(number, self.parent(home)["number"], home["number"])

    def before(self, node):
        siblings = self.parent(node)["children"]
        index = [child["number"] for child in siblings].index(node["number"])
        return siblings[index - 1] if index else None

    def call_demote(self, number):
        node = self.get(number)
        if node is None:
            return -1
        sibling = self.before(node)
        if sibling is None or sibling["cell"]:
            return -9
        after = sibling["children"][-1]["number"] if sibling["children"] else 0
        return self.call_move(number, sibling["number"], after)

    def call_raise(self, number):
        node = self.get(number)
        if node is None:
            return -1
        sibling = self.before(node)
        if sibling is None:
            return -9
        return self.call_move(sibling["number"], self.parent(node)["number"], number)

    def call_wrap(self, first, last, title):
        one, other = self.get(first), self.get(last)
        if one is None or other is None:
            return -1
        home = self.parent(one)
        if home is not self.parent(other):
            return -10
        numbers = [child["number"] for child in home["children"]]
        start, end = numbers.index(first), numbers.index(last) + 1
        if end <= start:
            return -10
        if not self.is_text(title):
            return -3
        if len(self.every()) == 60:
            return -4
        wrapped = home["children"][start:end]
        if self.depth(home) + 1 + max(map(self.height, wrapped)) > 6:
            return -5
        if self.upcoming > 999:
            return -6
        node = self.new(False, title)
        node["children"] = wrapped
        home["children"][start:end] = [node]
        return node["number"]

    def call_sort(self, parent):
        if parent != 0 and self.get(parent) is None:
            return -1
        home = self.section_or_top(parent)
        if home is None:
            return -7
        before = home["children"]
        home["children"] = sorted(before, key=lambda node: signs_of(node["text"]))
        return sum(one is not other for one, other in zip(before, home["children"]))

    def call_copy(self, number, parent, after):
        node = self.get(number)
        if node is None:
            return -1
        place = self.place(parent, after)
        if place is None:
            return -2
        originals = self.trees(node)
        if len(self.every()) + len(originals) > 60:
            return -4
        if not self.fits(place[0], node):
            return -5
        if self.upcoming + len(originals) > 1000:
            return -6
        renamed = {other["number"]: self.upcoming + index for index, other in enumerate(originals)}
        twin = self.twin(node, renamed)
        if any(len(other["text"]) > 60 for other in self.trees(twin)):
            return -14
        self.upcoming += len(originals)
        place[0]["children"].insert(place[1], twin)
        return twin["number"]

    def twin(self, node, renamed):
        def anew(found):
            number = int(found[1]) if found[1] else 0
            return f"@{renamed[number]}" if number in renamed else found[0]

        text = REFERENCE.sub(anew, signs_of(node["text"]))
        children = [self.twin(child, renamed) for child in node["children"]]
        return dict(node, number=renamed[node["number"]], text=row_of(text), children=children)

    def call_fold(self, number, mark):
        node = self.get(number)
        if node is None:
            return -1
        if node["cell"]:
            return -7
        if mark not in (0, 1):
            return -11
        node["folded"] = mark
        return 0

    def call_foldFrom(self, depth):
        if depth not in range(1, 8):
            return -12
        for node in self.every():
            node["folded"] = int(not node["cell"] and self.depth(node) >= depth)
        return sum(node["folded"] for node in self.every())

    def call_reveal(self, number):
        node = self.get(number)
        if node is None:
            return -1
        count = 0
        while self.parent(node) is not self.top:
            node = self.parent(node)
            count += node["folded"]
            node["folded"] = 0
        return count

    def call_order(self):
        told = [len(self.every())]
        for node in self.every():
            told += [node["number"], self.depth(node)]
        return alone(told)

    def labels(self):
        found = {}

        def name_sections(home, before):
            sections = [child for child in home["children"] if not child["cell"]]
            for place, section in enumerate(sections, 1):
                found[section["number"]] = f"{before}{place}"
                name_sections(section, f"{before}{place}.")

        name_sections(self.top, "")
        cells = [node["number"] for node in self.every() if node["cell"]]
        found.update({number: f"#{place}" for place, number in enumerate(cells, 1)})
        return found

    def shown(self, node):
        labels = self.labels()
        return REFERENCE.sub(
            lambda found: labels.get(int(found[1]), "?") if found[1] else "@", signs_of(node["text"]))

    def referred(self, node):
        return [int(found) for found in REFERENCE.findall(signs_of(node["text"])) if found]

    def around(self, node):
        """The sections that the node is in, from the top one on."""
        home = self.parent(node)
        return [] if home is self.top else self.around(home) + [home]

    def visible(self):
        return [node for node in self.every() if not any(home["folded"] for home in self.around(node))]

    def numbers_where(self, fits):
        return alone(counted([node["number"] for node in self.every() if fits(node)]))

    def call_view(self):
        told = [len(self.visible())]
        for node in self.visible():
            told += [node["number"], self.depth(node), len(self.trees(node)) - 1 if node["folded"] else 0]
        return alone(told)

    def call_label(self, number):
        return counted(row_of(self.labels()[number])) if self.get(number) else -1

    def call_find(self, label):
        return next((number for number, other in self.labels().items() if row_of(other) == list(label)), -13)

    def call_text(self, number):
        return alone(counted(self.get(number)["text"])) if self.get(number) else -1

    def call_shown(self, number):
        return alone(counted(row_of(self.shown(self.get(number))))) if self.get(number) else -1

    def call_contents(self, depth):
        if depth not in range(1, 8):
            return -12
        sections = [node for node in self.every() if not node["cell"] and self.depth(node) <= depth]
        told = [len(sections)]
        for node in sections:
            told += [node["number"]] + counted(row_of(self.labels()[node["number"]]))
            told += counted(row_of(self.shown(node)))
        return alone(told)

    def call_info(self, number):
        node = self.get(number)
        if node is None:
            return -1
        return [int(node["cell"]), self.depth(node), node["folded"], len(node["children"]), len(self.trees(node)),
                self.parent(node)["number"]]

    def call_path(self, number):
        node = self.get(number)
        return counted([home["number"] for home in self.around(node)] + [number]) if node else -1

    def call_references(self, number):
        node = self.get(number)
        if node is None:
            return -1
        told = [len(self.referred(node))]
        for other in self.referred(node):
            told += [other, int(self.get(other) is not None)]
        return alone(told)

    def call_referring(self, number):
        return self.numbers_where(lambda node: number in self.referred(node)) if self.get(number) else -1

    def call_broken(self):
        return self.numbers_where(lambda node: any(self.get(other) is None for other in self.referred(node)))

    def call_search(self, row):
        return self.numbers_where(lambda node: signs_with_strangers(row) in self.shown(node))

    def call_step(self, number, direction):
        if self.get(number) is None:
            return -1
        if direction not in (1, -1):
            return -16
        numbers = [0] + [node["number"] for node in self.visible()] + [0]
        return numbers[numbers.index(number) + direction] if number in numbers else -15

    def saved(self):
        lines = [f"outline {self.upcoming}\n"]
        for node in self.every():
            sign, mark = ("=", "") if node["cell"] else ("#", "- " if node["folded"] else "+ ")
            lines.append(f"{sign * self.depth(node)} {node['number']} {mark}{signs_of(node['text'])}\n")
        return "".join(lines)

    def call_save(self):
        return counted(row_of(self.saved()))

    def call_load(self, row):
        text = signs_with_strangers(row)
        loaded = Model()
        sections = []
        before = None
        for place, line in enumerate(re.findall(r"[^\n]*\n|[^\n]+", text) or [""]):
            fault = loaded.line_fault(line, place, sections, before)
            if fault:
                return [fault, place]
            before = loaded.every()[-1] if place else None
        self.top, self.upcoming = loaded.top, loaded.upcoming
        return 0

    def line_fault(self, line, place, sections, before):
        """The line's fault, or 0 where it was taken; sections are those that are still open."""
        found = (NODE_LINE if place else FIRST_LINE).fullmatch(line)
        if not line.endswith("\n"):
            return 1
        if not found:
            return 2
        if not place:
            self.upcoming = int(found[1])
            return 0 if 1 <= self.upcoming <= 1000 else 3
        signs, number, mark, text = found[1] or found[4], int(found[2] or found[5]), found[3], found[6]
        depth = len(signs)
        if not 1 <= number <= 999 or number >= self.upcoming or self.get(number) or (mark and depth > 6):
            return 3
        limit = 1 if before is None else self.depth(before) + (0 if before["cell"] else 1)
        if depth > limit:
            return 4
        if len(self.every()) == 60:
            return 5
        node = {"number": number, "cell": not mark, "folded": int(mark == "-"), "text": row_of(text), "children": []}
        sections[depth - 1:] = []
        (sections[-1] if sections else self.top)["children"].append(node)
        sections += [] if node["cell"] else [node]
        return 0

    def call_state(self):
        cells = sum(node["cell"] for node in self.every())
        return [len(self.every()), len(self.every()) - cells, cells, self.upcoming]
