"""The calls that tell where nodes stand: order, view, info, path, step, state."""

from outlinebook.calls import counted
from outlinebook.nodes import children_count, parent_position, position_of, tree_end
from outlinebook.refusals import NO_NODE, NO_SUCH_DIRECTION, NOT_VISIBLE


def order_of(outline):
    """The call order."""
    answer = [len(outline.nodes)]
    for node in outline.nodes:
        answer.append(node.number)
        answer.append(node.depth)
    return answer


def visible_positions(nodes):
    """The positions of the visible nodes."""
    found = []
    position = 0
    while position < len(nodes):
        found.append(position)
        position = tree_end(nodes, position) if nodes[position].folded == 1 else position + 1
    return found


def view_of(outline):
    """The call view."""
    nodes = outline.nodes
    visible = visible_positions(nodes)
    answer = [len(visible)]
    for position in visible:
        node = nodes[position]
        hidden = tree_end(nodes, position) - position - 1 if node.folded == 1 else 0
        answer.extend([node.number, node.depth, hidden])
    return answer


def info_of(outline, number):
    """The call info."""
    nodes = outline.nodes
    position = position_of(nodes, number)
    if position is None:
        return [NO_NODE]
    node = nodes[position]
    above = parent_position(nodes, position)
    parent = 0 if above is None else nodes[above].number
    children = children_count(nodes, position)
    return [node.cell, node.depth, node.folded, children, tree_end(nodes, position) - position, parent]


def path_to(outline, number):
    """The call path."""
    nodes = outline.nodes
    position = position_of(nodes, number)
    if position is None:
        return [NO_NODE]
    upwards = []
    while position is not None:
        upwards.append(nodes[position].number)
        position = parent_position(nodes, position)
    return counted(list(reversed(upwards)))


def step_from(outline, number, direction):
    """The call step."""
    nodes = outline.nodes
    position = position_of(nodes, number)
    if position is None:
        return [NO_NODE]
    if direction != 1 and direction != -1:
        return [NO_SUCH_DIRECTION]
    visible = visible_positions(nodes)
    if position not in visible:
        return [NOT_VISIBLE]
    place = visible.index(position) + direction
    if place < 0 or place >= len(visible):
        return [0]
    return [nodes[visible[place]].number]


def state_of(outline):
    """The call state."""
    cells = len([node for node in outline.nodes if node.cell == 1])
    count = len(outline.nodes)
    return [count, count - cells, cells, outline.next_number]
