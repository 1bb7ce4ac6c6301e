"""The calls that only tell: order."""


def order_of(outline):
    """The call order."""
    answer = [len(outline.nodes)]
    for node in outline.nodes:
        answer.append(node.number)
        answer.append(node.depth)
    return answer
