"""The call copy."""

from outlinebook.nodes import LAST_NUMBER, MOST_NODES, Node
from outlinebook.nodes import inserted, place_at, position_of, too_deep, tree_end
from outlinebook.refusals import NO_NODE, NO_PLACE, NUMBERS_USED_UP, TEXT_TOO_LONG, TOO_DEEP, TOO_MANY_NODES
from outlinebook.texts import MOST_BYTES, renumbered


def copies_of(tree, first_number, shift):
    """Copies of the tree's nodes, numbered from first_number on, deeper by shift."""
    numbers = {}
    for place, node in enumerate(tree):
        numbers[node.number] = first_number + place
    copies = []
    for node in tree:
        twin = Node(numbers[node.number], node.cell, node.depth + shift, renumbered(node.text, numbers))
        twin.folded = node.folded
        copies.append(twin)
    return copies


def copy_tree(outline, number, parent, after):
    """The call copy."""
    nodes = outline.nodes
    start = position_of(nodes, number)
    if start is None:
        return [NO_NODE]
    place = place_at(nodes, parent, after)
    if place is None:
        return [NO_PLACE]
    tree = nodes[start:tree_end(nodes, start)]
    shift = place[1] - nodes[start].depth
    if len(nodes) + len(tree) > MOST_NODES:
        return [TOO_MANY_NODES]
    if too_deep(tree, shift):
        return [TOO_DEEP]
    if outline.next_number + len(tree) - 1 > LAST_NUMBER:
        return [NUMBERS_USED_UP]
    copies = copies_of(tree, outline.next_number, shift)
    if any([len(twin.text) > MOST_BYTES for twin in copies]):
        return [TEXT_TOO_LONG]
    outline.nodes = inserted(nodes, place[0], copies)
    outline.next_number += len(copies)
    return [copies[0].number]
