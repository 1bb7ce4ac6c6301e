"""The calls that give trees other places: move, promote, demote, raise, sort."""

from outlinebook.nodes import children_run, deepen, inserted, parent_position, place_at, position_of
from outlinebook.nodes import sibling_before, too_deep, tree_end
from outlinebook.refusals import INTO_ITSELF, IS_A_CELL, NO_NODE, NO_PLACE, NOTHING_TO_DO, TOO_DEEP


def carry_tree(outline, start, position, depth):
    """Carry the tree at start to position, which is counted as if the tree were taken out, and to depth."""
    nodes = outline.nodes
    end = tree_end(nodes, start)
    tree = nodes[start:end]
    deepen(tree, depth - nodes[start].depth)
    outline.nodes = inserted(nodes[:start] + nodes[end:], position, tree)


def move_tree(outline, number, parent, after):
    """The call move."""
    nodes = outline.nodes
    start = position_of(nodes, number)
    if start is None:
        return [NO_NODE]
    end = tree_end(nodes, start)
    tree = nodes[start:end]
    if position_of(tree, parent) is not None:
        return [INTO_ITSELF]
    place = place_at(nodes[:start] + nodes[end:], parent, after)
    if place is None:
        return [NO_PLACE]
    depth = place[1]
    if too_deep(tree, depth - nodes[start].depth):
        return [TOO_DEEP]
    carry_tree(outline, start, place[0], depth)
    return [0]


def promote_tree(outline, number):
    """The call promote."""
    nodes = outline.nodes
    start = position_of(nodes, number)
    if start is None:
        return [NO_NODE]
    parent = parent_position(nodes, start)
    if parent is None:
        return [NOTHING_TO_DO]
    size = tree_end(nodes, start) - start
    carry_tree(outline, start, tree_end(nodes, parent) - size, nodes[parent].depth)
    return [0]


def demote_tree(outline, number):
    """The call demote."""
    nodes = outline.nodes
    start = position_of(nodes, number)
    if start is None:
        return [NO_NODE]
    before = sibling_before(nodes, start)
    if before is None or nodes[before].cell == 1:
        return [NOTHING_TO_DO]
    tree = nodes[start:tree_end(nodes, start)]
    if too_deep(tree, 1):
        return [TOO_DEEP]
    # The tree stands right behind that sibling's tree already: being deeper makes it the last child.
    deepen(tree, 1)
    return [0]


def raise_tree(outline, number):
    """The call raise."""
    nodes = outline.nodes
    start = position_of(nodes, number)
    if start is None:
        return [NO_NODE]
    before = sibling_before(nodes, start)
    if before is None:
        return [NOTHING_TO_DO]
    carry_tree(outline, start, before, nodes[start].depth)
    return [0]


def trees_between(nodes, start, end):
    """The trees that follow one another from start to end, each as a list of nodes."""
    trees = []
    while start < end:
        behind = tree_end(nodes, start)
        trees.append(nodes[start:behind])
        start = behind
    return trees


def sort_children(outline, parent):
    """The call sort."""
    nodes = outline.nodes
    if parent != 0 and position_of(nodes, parent) is None:
        return [NO_NODE]
    run = children_run(nodes, parent)
    if run is None:
        return [IS_A_CELL]
    trees = trees_between(nodes, run[0], run[1])
    ordered = sorted(trees, key=lambda tree: tree[0].text)
    others = [place for place in range(len(trees)) if trees[place][0].number != ordered[place][0].number]
    joined = []
    for tree in ordered:
        joined.extend(tree)
    outline.nodes = nodes[:run[0]] + joined + nodes[run[1]:]
    return [len(others)]
