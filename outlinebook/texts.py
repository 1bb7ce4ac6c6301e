"""Texts as lists of bytes, and the references in them."""

MOST_BYTES = 60
FIRST_BYTE = 32
LAST_BYTE = 126
AT_SIGN = 64
QUESTION_MARK = 63
ZERO = 48
NINE = 57
MOST_DIGITS = 3


def is_text(row):
    """Whether the numbers of the row are a text."""
    if len(row) > MOST_BYTES:
        return False
    return all([FIRST_BYTE <= byte <= LAST_BYTE for byte in row])


def bytes_of(signs):
    """The bytes of a text that Python writes as signs."""
    return [ord(sign) for sign in signs]


def digits_of(number):
    """The bytes of the number in decimal."""
    return bytes_of(str(number))


def number_of(digits):
    """The number that the bytes write in decimal."""
    number = 0
    for digit in digits:
        number = number * 10 + digit - ZERO
    return number


def reference_end(text, start):
    """Where the reference's number that begins at start ends; start itself if none begins there."""
    end = start
    if text[start:start + 1] == [ZERO]:
        return end
    while end < len(text) and end < start + MOST_DIGITS and ZERO <= text[end] <= NINE:
        end += 1
    return end


def parts_of(text):
    """The text in parts, each as (where it begins, where it ends, the number that it refers to, or 0).

    A part is a reference, or two signs @ that show one, or one byte that shows itself.
    """
    parts = []
    start = 0
    while start < len(text):
        end = start + 1
        number = 0
        if text[start] == AT_SIGN and text[end:end + 1] == [AT_SIGN]:
            end += 1
        elif text[start] == AT_SIGN:
            end = reference_end(text, end)
            number = number_of(text[start + 1:end])
        parts.append((start, end, number))
        start = end
    return parts


def references_in(text):
    """The text's references in order, each as (where its digits begin, where they end, its number)."""
    return [(start + 1, end, number) for start, end, number in parts_of(text) if number != 0]


def numbers_referred(text):
    """The numbers that the text refers to, in order."""
    return [number for start, end, number in references_in(text)]


def shown(text, labels):
    """What the text shows, where the dict labels holds each node's label by its number."""
    bytes_shown = []
    for start, end, number in parts_of(text):
        if number == 0:
            # Of two signs @ only one is shown, so the first byte stands for every part of this kind.
            bytes_shown.append(text[start])
        else:
            bytes_shown.extend(labels.get(number, [QUESTION_MARK]))
    return bytes_shown


def renumbered(text, numbers):
    """The text with each reference to a key of the dict numbers made one to that key's value."""
    changed = []
    taken = 0
    for start, end, number in references_in(text):
        if number in numbers:
            changed.extend(text[taken:start])
            changed.extend(digits_of(numbers[number]))
            taken = end
    return changed + text[taken:]
