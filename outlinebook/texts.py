"""Texts as lists of bytes, and the references in them."""

MOST_BYTES = 60
FIRST_BYTE = 32
LAST_BYTE = 126
AT_SIGN = 64
ZERO = 48
NINE = 57
MOST_DIGITS = 3


def is_text(row):
    """Whether the numbers of the row are a text."""
    if len(row) > MOST_BYTES:
        return False
    return all([FIRST_BYTE <= byte <= LAST_BYTE for byte in row])


def digits_of(number):
    """The bytes of the number in decimal."""
    return [ord(sign) for sign in str(number)]


def number_of(digits):
    """The number that the bytes write in decimal."""
    number = 0
    for digit in digits:
        number = number * 10 + digit - ZERO
    return number


def reference_end(text, start):
    """Where the reference's number that begins at start ends; start itself if none begins there."""
    end = start
    if text[start:start + 1] == [ZERO]:
        return end
    while end < len(text) and end < start + MOST_DIGITS and ZERO <= text[end] <= NINE:
        end += 1
    return end


def references_in(text):
    """The text's references in order, each as (where its digits begin, where they end, its number)."""
    found = []
    position = 0
    while position < len(text):
        behind = position + 1
        if text[position] != AT_SIGN:
            position = behind
        elif text[behind:behind + 1] == [AT_SIGN]:
            position = behind + 1
        else:
            position = reference_end(text, behind)
            if position > behind:
                found.append((behind, position, number_of(text[behind:position])))
    return found


def renumbered(text, numbers):
    """The text with each reference to a key of the dict numbers made one to that key's value."""
    changed = []
    taken = 0
    for start, end, number in references_in(text):
        if number in numbers:
            changed.extend(text[taken:start])
            changed.extend(digits_of(numbers[number]))
            taken = end
    return changed + text[taken:]
