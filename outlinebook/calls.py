"""Calls as they are written in one list of whole numbers."""

# By the call's number: its name, how many whole numbers it has, and how many rows behind them (0 or 1).
SHAPES = (
    ("section", 2, 1),
    ("cell", 2, 1),
    ("write", 1, 1),
    ("move", 3, 0),
    ("drop", 1, 0),
    ("dissolve", 1, 0),
    ("promote", 1, 0),
    ("demote", 1, 0),
    ("wrap", 2, 1),
    ("raise", 1, 0),
    ("sort", 1, 0),
    ("copy", 3, 0),
    ("fold", 2, 0),
    ("foldFrom", 1, 0),
    ("reveal", 1, 0),
    ("order", 0, 0),
    ("view", 0, 0),
    ("label", 1, 0),
    ("find", 0, 1),
    ("text", 1, 0),
    ("shown", 1, 0),
    ("contents", 1, 0),
    ("info", 1, 0),
    ("path", 1, 0),
    ("references", 1, 0),
    ("referring", 1, 0),
    ("broken", 0, 0),
    ("search", 0, 1),
    ("step", 2, 0),
    ("save", 0, 0),
    ("load", 0, 1),
    ("state", 0, 0),
)


class Call:
    """One call: its name, its whole numbers, and its row (empty where the call has none)."""

    def __init__(self, name, wholes, row):
        self.name = name
        self.wholes = wholes
        self.row = row


def counted(row):
    """How a list is told: how many numbers it has, then they."""
    return [len(row)] + row


def read_calls(numbers):
    """The calls that the list of numbers writes, in order."""
    found = []
    position = 0
    while position < len(numbers):
        shape = SHAPES[numbers[position]]
        row_start = position + 1 + shape[1]
        wholes = numbers[position + 1:row_start]
        row = []
        position = row_start
        if shape[2] == 1:
            position = row_start + 1 + numbers[row_start]
            row = numbers[row_start + 1:position]
        found.append(Call(shape[0], wholes, row))
    return found
