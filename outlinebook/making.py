"""The calls that make nodes, write their texts or take nodes out: section, cell, wrap, write, drop, dissolve."""

from outlinebook.nodes import DEEPEST_SECTION, LAST_NUMBER, MOST_NODES, Node
from outlinebook.nodes import children_count, deepen, inserted, place_at, position_of, too_deep, tree_end
from outlinebook.refusals import IS_A_CELL, NO_NODE, NO_PLACE, NOT_A_TEXT, NOT_SIBLINGS
from outlinebook.refusals import NUMBERS_USED_UP, TOO_DEEP, TOO_MANY_NODES
from outlinebook.texts import is_text


def new_node_refusal(outline, text, deep):
    """Why a new node with the text can't be, or 0; deep tells whether a section would be too deep."""
    if not is_text(text):
        return NOT_A_TEXT
    if len(outline.nodes) >= MOST_NODES:
        return TOO_MANY_NODES
    if deep:
        return TOO_DEEP
    if outline.next_number > LAST_NUMBER:
        return NUMBERS_USED_UP
    return 0


def put_new_node(outline, cell, position, depth, text):
    """Put a new node in at position; its number."""
    node = Node(outline.next_number, cell, depth, text)
    outline.nodes = inserted(outline.nodes, position, [node])
    outline.next_number += 1
    return node.number


def add_node(outline, cell, parent, after, text):
    """The calls section (cell is 0) and cell (cell is 1)."""
    place = place_at(outline.nodes, parent, after)
    if place is None:
        return [NO_PLACE]
    position = place[0]
    depth = place[1]
    refusal = new_node_refusal(outline, text, cell == 0 and depth > DEEPEST_SECTION)
    if refusal != 0:
        return [refusal]
    return [put_new_node(outline, cell, position, depth, text)]


def siblings_in_order(nodes, start, final):
    """Whether the nodes at start and final are siblings (or one), start not behind final."""
    depth = nodes[start].depth
    if start > final or nodes[final].depth != depth:
        return False
    return all([node.depth >= depth for node in nodes[start:final]])


def wrap_siblings(outline, first, last, title):
    """The call wrap."""
    nodes = outline.nodes
    start = position_of(nodes, first)
    final = position_of(nodes, last)
    if start is None or final is None:
        return [NO_NODE]
    if not siblings_in_order(nodes, start, final):
        return [NOT_SIBLINGS]
    depth = nodes[start].depth
    wrapped = nodes[start:tree_end(nodes, final)]
    refusal = new_node_refusal(outline, title, depth > DEEPEST_SECTION or too_deep(wrapped, 1))
    if refusal != 0:
        return [refusal]
    deepen(wrapped, 1)
    return [put_new_node(outline, 0, start, depth, title)]


def write_text(outline, number, text):
    """The call write."""
    position = position_of(outline.nodes, number)
    if position is None:
        return [NO_NODE]
    if not is_text(text):
        return [NOT_A_TEXT]
    node = outline.nodes[position]
    node.text = text
    return [0]


def drop_tree(outline, number):
    """The call drop."""
    nodes = outline.nodes
    start = position_of(nodes, number)
    if start is None:
        return [NO_NODE]
    end = tree_end(nodes, start)
    outline.nodes = nodes[:start] + nodes[end:]
    return [end - start]


def dissolve_section(outline, number):
    """The call dissolve."""
    nodes = outline.nodes
    start = position_of(nodes, number)
    if start is None:
        return [NO_NODE]
    if nodes[start].cell == 1:
        return [IS_A_CELL]
    children = children_count(nodes, start)
    deepen(nodes[start + 1:tree_end(nodes, start)], -1)
    outline.nodes = nodes[:start] + nodes[start + 1:]
    return [children]
