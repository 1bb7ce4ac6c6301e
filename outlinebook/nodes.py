"""Nodes in reading order, and where they stand.

An outline is kept as one list of its nodes in reading order, each with its
depth. This tells the whole outline: a node's parent is the nearest node before
it that is less deep, and a tree is always an unbroken run of the list.
"""

MOST_NODES = 60
DEEPEST_SECTION = 6
DEEPEST_NODE = 7
LAST_NUMBER = 999


class Node:
    """A section (cell is 0) or a cell (cell is 1)."""

    def __init__(self, number, cell, depth, text):
        self.number = number
        self.cell = cell
        self.depth = depth
        self.text = text
        self.folded = 0


class Outline:
    """The nodes in reading order, and the next number."""

    def __init__(self):
        self.nodes = []
        self.next_number = 1


def position_of(nodes, number):
    """The position of the node of that number, or None."""
    for position, node in enumerate(nodes):
        if node.number == number:
            return position
    return None


def tree_end(nodes, start):
    """The position right behind the tree of the node at start."""
    end = start + 1
    while end < len(nodes) and nodes[end].depth > nodes[start].depth:
        end += 1
    return end


def parent_position(nodes, position):
    """The position of the parent of the node at position, or None for a top node."""
    above = position - 1
    while above >= 0 and nodes[above].depth >= nodes[position].depth:
        above -= 1
    return above if above >= 0 else None


def sibling_before(nodes, position):
    """The position of the sibling right before the node at position, or None for the first."""
    above = position - 1
    while above >= 0 and nodes[above].depth > nodes[position].depth:
        above -= 1
    if above < 0 or nodes[above].depth < nodes[position].depth:
        return None
    return above


def children_run(nodes, parent):
    """The run of the nodes in parent (0: of all) as (start, end, the children's depth).

    None where parent is neither 0 nor a section's number.
    """
    if parent == 0:
        return (0, len(nodes), 1)
    position = position_of(nodes, parent)
    if position is None or nodes[position].cell == 1:
        return None
    return (position + 1, tree_end(nodes, position), nodes[position].depth + 1)


def children_count(nodes, position):
    """How many children the node at position has."""
    inside = nodes[position + 1:tree_end(nodes, position)]
    return len([node for node in inside if node.depth == nodes[position].depth + 1])


def place_at(nodes, parent, after):
    """The place at (parent, after) as (position, depth), or None where there is none."""
    run = children_run(nodes, parent)
    if run is None:
        return None
    start = run[0]
    end = run[1]
    depth = run[2]
    if after == 0:
        return (start, depth)
    sibling = position_of(nodes, after)
    if sibling is None or sibling < start or sibling >= end or nodes[sibling].depth != depth:
        return None
    return (tree_end(nodes, sibling), depth)


def too_deep(nodes, shift):
    """Whether a section among the nodes would be too deep if all were deeper by shift."""
    return any([node.cell == 0 and node.depth + shift > DEEPEST_SECTION for node in nodes])


def deepen(nodes, shift):
    """Make each of the nodes deeper by shift."""
    for node in nodes:
        node.depth += shift


def inserted(nodes, position, run):
    """The nodes with those of run put in at position."""
    return nodes[:position] + run + nodes[position:]
