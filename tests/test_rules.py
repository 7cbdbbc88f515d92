"""Reading wishes against a second reading, made without the rules' functions.

The second one walks the tokens once: a part or what goes on is asked for, and
the levels lie on a stack.
"""

import itertools
import random
import unittest

from tests.helper import one_answer

PREFIXES = ("!", "next", "ever", "always", "within")
BETWEEN = ("->", "|", "&", "until", "unless")
ALL = PREFIXES + BETWEEN + ("true", "false", "[a]", "[b#1]", "atleast", "atmost", "(", ")", "0", "4", "other")


class SecondReading:
    def __init__(self):
        self.asks = "part"
        self.levels = []

    def end_levels(self, words):
        while self.levels and self.levels[-1] in words:
            self.levels.pop()

    def wanted(self, token):
        """Whether the rules let this token follow."""
        if self.asks == "part":
            return token in PREFIXES + ("true", "false", "atleast", "atmost", "(") or token.startswith("[")
        if self.asks == "more":
            return token in BETWEEN or token == (")" if "(" in self.levels else "")
        if self.asks == "pattern":
            return token.startswith("[")
        return token.isdigit() and int(token) >= (0 if self.asks == "atmost" else 1)

    def step(self, token):
        """The kind of fault at this token, or 0."""
        if not self.wanted(token):
            return 3
        if self.asks in ("within", "atleast", "atmost"):
            self.asks = "part" if self.asks == "within" else "pattern"
            return 0
        if token in BETWEEN:
            self.end_levels(() if token in ("until", "unless") else ("until", "unless"))
        if token in PREFIXES + ("(", "->", "until", "unless"):
            if len(self.levels) == 20:
                return 4
            self.levels.append(token)
        if token == ")":
            self.end_levels(("until", "unless", "->"))
            self.levels.pop()
        if token in ("true", "false", ")") or token.startswith("["):
            self.end_levels(PREFIXES)
            self.asks = "more"
        elif token in ("within", "atleast", "atmost"):
            self.asks = token
        else:
            self.asks = "part"
        return 0


def second_answer(tokens):
    """What read should answer of the tokens with one blank between each two."""
    reading = SecondReading()
    place = 0
    for token in list(tokens) + [""]:
        at = place if token else max(place - 1, 0)
        kind = reading.step(token)
        if kind:
            return [kind, at]
        place += len(token) + 1
    nodes = sum(token not in ("(", ")") and not token.isdigit() for token in tokens)
    # The pattern behind a digit of atleast and atmost is no node of its own.
    nodes -= sum(token in ("atleast", "atmost") for token in tokens)
    patterns = len({token for token in tokens if token.startswith("[")})
    if nodes > 30:
        return [5, 0]
    return [6, 0] if patterns > 5 else [0, nodes, patterns]


def likely_tokens(chance, length):
    """Tokens that mostly go on by the rules, so that long wishes come of it."""
    reading = SecondReading()
    tokens = []
    while len(tokens) < length:
        fitting = [token for token in ALL + ("[c]", "[d]", "[e]", "[f]") if reading.wanted(token)]
        token = chance.choice(ALL) if chance.random() < 0.01 else chance.choice(fitting)
        tokens.append(token)
        if reading.step(token):
            return tokens
        if reading.asks == "more" and reading.wanted("") and chance.random() < 0.2:
            return tokens
    return tokens


def deep_tokens(chance, length):
    reading = SecondReading()
    tokens = []
    while len(tokens) < length:
        weights = {"(": 4, "!": 3, ")": 2, "->": 3, "until": 3, "next": 3}
        fitting = [token for token in ("(", ")", "!", "next", "->", "until", "&", "true") if reading.wanted(token)]
        token = chance.choices(fitting, [weights.get(one, 1) for one in fitting])[0]
        tokens.append(token)
        if reading.step(token):
            return tokens
    return tokens


class TwoReadings(unittest.TestCase):
    def check(self, tokens):
        wish = " ".join(tokens)
        if len(wish) <= 1000:
            self.assertEqual(one_answer("read", wish), second_answer(tokens), wish)

    def test_all_short_rows_of_tokens(self):
        for length in range(4):
            for tokens in itertools.product(ALL, repeat=length):
                self.check(tokens)

    def test_longer_rows_of_fewer_tokens(self):
        for tokens in itertools.product(("!", "&", "->", "until", "true", "(", ")"), repeat=5):
            self.check(tokens)

    def test_likely_wishes(self):
        chance = random.Random(7)
        for length in range(3000):
            self.check(likely_tokens(chance, 5 + length % 80))

    def test_deep_wishes(self):
        chance = random.Random(8)
        for length in range(2000):
            self.check(deep_tokens(chance, 20 + length % 100))


if __name__ == "__main__":
    unittest.main()
