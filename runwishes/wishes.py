"""Wishes as they are held once they are read."""

from runwishes.patterns import same_pattern

PATTERN = "pattern"


class Wish:
    """A wish's sign or word, with what stands beside it.

    The word of a pattern by itself is PATTERN. The number is 0 and the pattern
    None where the wish has none; the parts are its a and b, as far as there.
    """

    def __init__(self, word, number, pattern, parts):
        self.word = word
        self.number = number
        self.pattern = pattern
        self.parts = parts
        self.nodes = 1 + sum([part.nodes for part in parts])


def patterns_of(wish):
    """The patterns in the wish, from the left to the right, each once."""
    found = []
    waiting = [wish]
    while len(waiting) > 0:
        current = waiting.pop()
        if current.pattern is not None and not is_among(current.pattern, found):
            found.append(current.pattern)
        # The left part has to be the next one taken off the end.
        waiting.extend(list(reversed(current.parts)))
    return found


def is_among(pattern, found):
    return any([same_pattern(pattern, other) for other in found])
