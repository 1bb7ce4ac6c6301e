"""The labels of sections and cells, which follow from where these stand."""

from outlinebook.texts import bytes_of


def section_places(places, depth):
    """The places of the sections from the top one down to the next section, which is at depth.

    The list places tells the same of the section before it in reading order.
    """
    kept = places[:depth]
    if len(kept) < depth:
        return kept + [1]
    return kept[:-1] + [kept[-1] + 1]


def labels_of(nodes):
    """The label of each node, by the node's number."""
    labels = {}
    places = []
    cells = 0
    for node in nodes:
        if node.cell == 1:
            cells += 1
            labels[node.number] = bytes_of("#" + str(cells))
        else:
            places = section_places(places, node.depth)
            labels[node.number] = bytes_of(".".join([str(place) for place in places]))
    return labels
