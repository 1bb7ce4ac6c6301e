"""The calls that tell labels, texts and references.

These are label, find, text, shown, contents, references, referring, broken and search.
"""

from outlinebook.calls import counted
from outlinebook.labels import labels_of
from outlinebook.nodes import DEEPEST_NODE, position_of
from outlinebook.refusals import NO_NODE, NO_SUCH_DEPTH, NO_SUCH_LABEL
from outlinebook.texts import numbers_referred, shown


def label_of(outline, number):
    """The call label."""
    if position_of(outline.nodes, number) is None:
        return [NO_NODE]
    return counted(labels_of(outline.nodes)[number])


def find_label(outline, told):
    """The call find."""
    for number, label in labels_of(outline.nodes).items():
        if label == told:
            return [number]
    return [NO_SUCH_LABEL]


def text_of(outline, number):
    """The call text."""
    position = position_of(outline.nodes, number)
    if position is None:
        return [NO_NODE]
    return counted(outline.nodes[position].text)


def shown_text_of(outline, number):
    """The call shown."""
    position = position_of(outline.nodes, number)
    if position is None:
        return [NO_NODE]
    return counted(shown(outline.nodes[position].text, labels_of(outline.nodes)))


def contents_to(outline, depth):
    """The call contents."""
    if depth < 1 or depth > DEEPEST_NODE:
        return [NO_SUCH_DEPTH]
    labels = labels_of(outline.nodes)
    sections = [node for node in outline.nodes if node.cell == 0 and node.depth <= depth]
    answer = [len(sections)]
    for section in sections:
        answer.append(section.number)
        answer.extend(counted(labels[section.number]))
        answer.extend(counted(shown(section.text, labels)))
    return answer


def references_of(outline, number):
    """The call references."""
    nodes = outline.nodes
    position = position_of(nodes, number)
    if position is None:
        return [NO_NODE]
    referred = numbers_referred(nodes[position].text)
    answer = [len(referred)]
    for target in referred:
        answer.append(target)
        answer.append(0 if position_of(nodes, target) is None else 1)
    return answer


def referring_to(outline, number):
    """The call referring."""
    nodes = outline.nodes
    if position_of(nodes, number) is None:
        return [NO_NODE]
    return counted([node.number for node in nodes if number in numbers_referred(node.text)])


def is_broken(nodes, text):
    """Whether the text has a reference to a number that is no node's."""
    return any([position_of(nodes, number) is None for number in numbers_referred(text)])


def broken_in(outline):
    """The call broken."""
    nodes = outline.nodes
    return counted([node.number for node in nodes if is_broken(nodes, node.text)])


def stands_in(run, row):
    """Whether the numbers of run stand one behind the other somewhere in the row."""
    for start in range(len(row) - len(run) + 1):
        if row[start:start + len(run)] == run:
            return True
    return False


def search_for(outline, told):
    """The call search."""
    labels = labels_of(outline.nodes)
    return counted([node.number for node in outline.nodes if stands_in(told, shown(node.text, labels))])
