"""The outline's text, written and strictly read: the calls save and load."""

from outlinebook.calls import counted
from outlinebook.nodes import DEEPEST_NODE, DEEPEST_SECTION, LAST_NUMBER, MOST_NODES, Node, Outline
from outlinebook.nodes import position_of
from outlinebook.texts import NINE, ZERO, bytes_of, is_text, number_of

NOT_ENDED = 1
NOT_WRITTEN_SO = 2
OUT_OF_RANGE = 3
DEPTH_DOES_NOT_FIT = 4
SIXTY_BEFORE = 5

LINE_END = 10
FIRST_WORD = "outline "
SECTION_SIGN = "#"
CELL_SIGN = "="
BEFORE_UNFOLDED_TITLE = " + "
BEFORE_FOLDED_TITLE = " - "
BEFORE_CELL_TEXT = " "
MOST_NUMBER_DIGITS = 4


def line_of(node):
    """The node's line, without its end."""
    sign = SECTION_SIGN
    before_text = BEFORE_FOLDED_TITLE if node.folded == 1 else BEFORE_UNFOLDED_TITLE
    if node.cell == 1:
        sign = CELL_SIGN
        before_text = BEFORE_CELL_TEXT
    return bytes_of(sign * node.depth + " " + str(node.number) + before_text) + node.text


def save_outline(outline):
    """The call save."""
    saved = bytes_of(FIRST_WORD + str(outline.next_number)) + [LINE_END]
    for node in outline.nodes:
        saved.extend(line_of(node))
        saved.append(LINE_END)
    return counted(saved)


def lines_of(row):
    """The lines of the row; the last one is what stands behind the last line end, often empty."""
    lines = []
    line = []
    for number in row:
        if number == LINE_END:
            lines.append(line)
            line = []
        else:
            line.append(number)
    lines.append(line)
    return lines


def has_at(line, start, signs):
    """Whether the signs stand in the line at start."""
    return line[start:start + len(signs)] == bytes_of(signs)


def number_at(line, start):
    """The number that the digits at start write as (number, where it ends), or None where there is none."""
    end = start
    while end < len(line) and ZERO <= line[end] <= NINE:
        end += 1
    count = end - start
    if count < 1 or count > MOST_NUMBER_DIGITS or (count > 1 and line[start] == ZERO):
        return None
    return (number_of(line[start:end]), end)


def next_number_in(line):
    """The next number that a first line tells, or None where it isn't written as a first line."""
    found = number_at(line, len(FIRST_WORD))
    if not has_at(line, 0, FIRST_WORD) or found is None or found[1] != len(line):
        return None
    return found[0]


def depth_in(line, sign):
    """How many signs of this kind the line begins with."""
    depth = 0
    while has_at(line, depth, sign):
        depth += 1
    return depth


def node_with(line, cell, depth, marks):
    """The node of that depth that the line tells, or None where it isn't written so.

    The marks are what may stand before its text, by whether it is folded.
    """
    found = number_at(line, depth + 1)
    if depth < 1 or depth > DEEPEST_NODE or not has_at(line, depth, " ") or found is None:
        return None
    for folded, mark in enumerate(marks):
        text = line[found[1] + len(mark):]
        if has_at(line, found[1], mark) and is_text(text):
            node = Node(found[0], cell, depth, text)
            node.folded = folded
            return node
    return None


def node_in(line):
    """The node that the line tells, or None where it is written as neither a section's nor a cell's."""
    if has_at(line, 0, CELL_SIGN):
        return node_with(line, 1, depth_in(line, CELL_SIGN), (BEFORE_CELL_TEXT,))
    return node_with(line, 0, depth_in(line, SECTION_SIGN), (BEFORE_UNFOLDED_TITLE, BEFORE_FOLDED_TITLE))


def greatest_depth(nodes):
    """How deep a node right behind the nodes can be."""
    if len(nodes) == 0:
        return 1
    return nodes[-1].depth if nodes[-1].cell == 1 else nodes[-1].depth + 1


def node_fault(outline, node):
    """The fault of the node's line behind the lines that gave the outline so far, or 0."""
    nodes = outline.nodes
    number = node.number
    # The next number is at most 1000, so a number above 999 is not below it either.
    if number < 1 or number >= outline.next_number or position_of(nodes, number) is not None:
        return OUT_OF_RANGE
    if node.cell == 0 and node.depth > DEEPEST_SECTION:
        return OUT_OF_RANGE
    if node.depth > greatest_depth(nodes):
        return DEPTH_DOES_NOT_FIT
    if len(nodes) >= MOST_NODES:
        return SIXTY_BEFORE
    return 0


def take_first_line(outline, line):
    """Give the outline the next number of its first line; the line's fault, or 0."""
    number = next_number_in(line)
    if number is None:
        return NOT_WRITTEN_SO
    if number < 1 or number > LAST_NUMBER + 1:
        return OUT_OF_RANGE
    outline.next_number = number
    return 0


def take_node_line(outline, line):
    """Put the node of the line behind those of the outline; the line's fault, or 0."""
    node = node_in(line)
    if node is None:
        return NOT_WRITTEN_SO
    fault = node_fault(outline, node)
    if fault == 0:
        outline.nodes.append(node)
    return fault


def load_outline(outline, row):
    """The call load."""
    loaded = Outline()
    lines = lines_of(row)
    rest = lines.pop()
    for place, line in enumerate(lines):
        fault = take_first_line(loaded, line) if place == 0 else take_node_line(loaded, line)
        if fault != 0:
            return [fault, place]
    if len(rest) > 0 or len(lines) == 0:
        return [NOT_ENDED, len(lines)]
    outline.nodes = loaded.nodes
    outline.next_number = loaded.next_number
    return [0]
