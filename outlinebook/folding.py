"""The calls that fold sections and unfold them: fold, foldFrom, reveal."""

from outlinebook.nodes import DEEPEST_NODE, parent_position, position_of
from outlinebook.refusals import IS_A_CELL, NO_NODE, NO_SUCH_DEPTH, NO_SUCH_MARK


def fold_section(outline, number, mark):
    """The call fold."""
    position = position_of(outline.nodes, number)
    if position is None:
        return [NO_NODE]
    node = outline.nodes[position]
    if node.cell == 1:
        return [IS_A_CELL]
    if mark != 0 and mark != 1:
        return [NO_SUCH_MARK]
    node.folded = mark
    return [0]


def fold_from(outline, depth):
    """The call foldFrom."""
    if depth < 1 or depth > DEEPEST_NODE:
        return [NO_SUCH_DEPTH]
    count = 0
    for node in outline.nodes:
        if node.cell == 0:
            node.folded = 1 if node.depth >= depth else 0
            count += node.folded
    return [count]


def reveal_node(outline, number):
    """The call reveal."""
    nodes = outline.nodes
    position = position_of(nodes, number)
    if position is None:
        return [NO_NODE]
    count = 0
    above = parent_position(nodes, position)
    while above is not None:
        section = nodes[above]
        count += section.folded
        section.folded = 0
        above = parent_position(nodes, above)
    return [count]
