"""Cutting a wish's text into tokens."""

from runwishes.patterns import read_pattern
from runwishes.texts import TextFault, is_letters

NO_TOKEN = 2

SIGNS = "!&|()"
END = ""


class Token:
    """A piece of a wish's text; the end is one too, with the text END."""

    def __init__(self, text, place, pattern):
        self.text = text
        self.place = place
        self.pattern = pattern


def cut_tokens(text):
    """The tokens and the end behind them; a TextFault where none stands."""
    tokens = []
    place = 0
    while place < len(text):
        if text[place] == " ":
            place += 1
            continue
        token = token_at(text, place)
        if token is None:
            raise TextFault(NO_TOKEN, place)
        tokens.append(token)
        place += len(token.text)
    tokens.append(Token(END, len(text), None))
    return tokens


def token_at(text, place):
    """The token that begins at the place, or None."""
    first = text[place]
    if first in SIGNS:
        return Token(first, place, None)
    if text.startswith("->", place):
        return Token("->", place, None)
    if first == "[":
        return pattern_at(text, place)
    if is_letters(first):
        return Token(text[place:word_end(text, place)], place, None)
    if first.isdigit() and not text[place + 1:place + 2].isdigit():
        return Token(first, place, None)
    return None


def pattern_at(text, place):
    last = text.find("]", place)
    if last < 0:
        return None
    written = text[place:last + 1]
    pattern = read_pattern(written)
    if pattern is None:
        return None
    return Token(written, place, pattern)


def word_end(text, place):
    end = place
    while end < len(text) and is_letters(text[end]):
        end += 1
    return end
