"""Ranges and patterns: reading and writing their texts, and what they match."""

from runwishes.texts import LARGEST_NUMBER, is_name, read_number


class Pattern:
    """What an event is asked for: "" is no kind or subject, None no range.

    A range is a tuple of its first and its second number.
    """

    def __init__(self, kind, subject, numbers, gaps):
        self.kind = kind
        self.subject = subject
        self.numbers = numbers
        self.gaps = gaps


def read_range(text):
    """The range that the text can be read as, or None."""
    by_points = text.partition("..")
    if by_points[1] == "":
        first = read_number(text)
        second = first
    else:
        first = bound_of(by_points[0], 0)
        second = bound_of(by_points[2], LARGEST_NUMBER)
    if first is None or second is None or first > second or text == "..":
        return None
    return (first, second)


def bound_of(text, unwritten):
    if text == "":
        return unwritten
    return read_number(text)


def range_text(bounds):
    first = bounds[0]
    second = bounds[1]
    if first == second:
        return str(first)
    if second == LARGEST_NUMBER and first != 0:
        return f"{first}.."
    if first == 0 and second != LARGEST_NUMBER:
        return f"..{second}"
    return f"{first}..{second}"


def read_pattern(text):
    """The pattern that the text, brackets and all, can be read as, or None."""
    if len(text) < 2 or text[0] != "[" or text[-1] != "]":
        return None
    by_gaps = text[1:-1].partition("+")
    by_numbers = by_gaps[0].partition("#")
    by_subject = by_numbers[0].partition("@")
    # A part whose sign is missing comes out as "" or None: the pattern has none.
    kind = by_subject[0]
    subject = by_subject[2]
    numbers = read_range(by_numbers[2])
    gaps = read_range(by_gaps[2])
    if kind != "" and not is_name(kind):
        return None
    if by_subject[1] != "" and not is_name(subject):
        return None
    if by_numbers[1] != "" and numbers is None:
        return None
    if by_gaps[1] != "" and gaps is None:
        return None
    return Pattern(kind, subject, numbers, gaps)


def pattern_text(pattern):
    text = "[" + pattern.kind
    if pattern.subject != "":
        text += "@" + pattern.subject
    if pattern.numbers is not None:
        text += "#" + range_text(pattern.numbers)
    if pattern.gaps is not None:
        text += "+" + range_text(pattern.gaps)
    return text + "]"


def same_pattern(one, other):
    """Whether all four parts are the same, however they were written."""
    if one.kind != other.kind or one.subject != other.subject:
        return False
    return one.numbers == other.numbers and one.gaps == other.gaps


def fits_event(pattern, event):
    """Whether the pattern matches the event."""
    if not fits_name(pattern.kind, event.kind) or not fits_name(pattern.subject, event.subject):
        return False
    return fits_range(pattern.numbers, event.number) and fits_range(pattern.gaps, event.gap)


def fits_name(asked, name):
    return asked == "" or asked == name


def fits_range(bounds, number):
    return bounds is None or bounds[0] <= number <= bounds[1]
