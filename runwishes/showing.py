"""Showing a wish in its one form."""

from runwishes.patterns import pattern_text
from runwishes.wishes import PATTERN

# The rules by how far down they stand in their list: 0 WISH, 1 OR, 2 AND,
# 3 UNTIL, 4 ONE, 5 ATOM. A wish's own rule is ATOM where none is named here.
OWN_RULES = {
    "->": 0, "|": 1, "&": 2, "until": 3, "unless": 3,
    "!": 4, "next": 4, "ever": 4, "always": 4, "within": 4,
}
LEFT_RULES = {"->": 1, "|": 1, "&": 2, "until": 4, "unless": 4}
RIGHT_RULES = {"->": 0, "|": 2, "&": 3, "until": 3, "unless": 3}
ONE = 4
ATOM = 5


def wish_text(wish):
    word = wish.word
    if word in ("true", "false"):
        return word
    if word == PATTERN:
        return pattern_text(wish.pattern)
    if word in ("atleast", "atmost"):
        return counted_text(wish)
    if word in LEFT_RULES:
        left = part_text(wish.parts[0], LEFT_RULES[word])
        right = part_text(wish.parts[1], RIGHT_RULES[word])
        return f"{left} {word} {right}"
    return prefix_text(wish) + part_text(wish.parts[0], ONE)


def counted_text(wish):
    word = wish.word
    number = wish.number
    pattern = pattern_text(wish.pattern)
    return f"{word} {number} {pattern}"


def prefix_text(wish):
    word = wish.word
    number = wish.number
    if word == "!":
        return word
    if word == "within":
        return f"{word} {number} "
    return f"{word} "


def part_text(part, asked):
    """The part as it stands where the rule with this number is asked for."""
    text = wish_text(part)
    if OWN_RULES.get(part.word, ATOM) < asked:
        return f"({text})"
    return text
