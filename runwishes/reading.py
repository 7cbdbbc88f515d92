"""Reading a wish from its text: one function for each of the rules."""

from runwishes.texts import TextFault
from runwishes.tokens import END, cut_tokens
from runwishes.wishes import PATTERN, Wish, patterns_of

MOST_BYTES = 1000
MOST_LEVELS = 20
MOST_NODES = 30
MOST_PATTERNS = 5

TOO_LONG = 1
CANT_GO_ON = 3
TOO_DEEP = 4
TOO_MANY_NODES = 5
TOO_MANY_PATTERNS = 6

PREFIXES = ("!", "next", "ever", "always", "within")


class Reader:
    """The tokens of a wish, how far they are read, and the levels in force."""

    def __init__(self, tokens):
        self.tokens = tokens
        self.taken = 0
        self.levels = 0

    def ahead(self):
        return self.tokens[self.taken]

    def take(self, text):
        """Goes past the token ahead, which has to be this one."""
        if self.ahead().text != text:
            raise TextFault(CANT_GO_ON, self.ahead().place)
        self.taken += 1

    def take_digit(self, least):
        token = self.ahead()
        if not token.text.isdigit() or int(token.text) < least:
            raise TextFault(CANT_GO_ON, token.place)
        self.taken += 1
        return int(token.text)

    def take_pattern(self):
        token = self.ahead()
        if token.pattern is None:
            raise TextFault(CANT_GO_ON, token.place)
        self.taken += 1
        return token.pattern

    def enter_level(self):
        """Goes past the token ahead, which is one that opens a level."""
        if self.levels == MOST_LEVELS:
            raise TextFault(TOO_DEEP, self.ahead().place)
        self.levels += 1
        self.taken += 1

    def leave_level(self):
        self.levels -= 1


def read_wish(text):
    """The wish whose text this is; a TextFault if it has a fault."""
    if len(text) > MOST_BYTES:
        raise TextFault(TOO_LONG, 0)
    reader = Reader(cut_tokens(text))
    wish = read_if(reader)
    reader.take(END)
    if wish.nodes > MOST_NODES:
        raise TextFault(TOO_MANY_NODES, 0)
    if len(patterns_of(wish)) > MOST_PATTERNS:
        raise TextFault(TOO_MANY_PATTERNS, 0)
    return wish


# The functions below call each other at most six deep for each level, and
# there are at most 20 levels: no text makes Python run out of calls.

def read_if(reader):
    """The rule WISH."""
    left = read_or(reader)
    if reader.ahead().text != "->":
        return left
    reader.enter_level()
    right = read_if(reader)
    reader.leave_level()
    return Wish("->", 0, None, [left, right])


def read_or(reader):
    left = read_and(reader)
    while reader.ahead().text == "|":
        reader.take("|")
        left = Wish("|", 0, None, [left, read_and(reader)])
    return left


def read_and(reader):
    left = read_until(reader)
    while reader.ahead().text == "&":
        reader.take("&")
        left = Wish("&", 0, None, [left, read_until(reader)])
    return left


def read_until(reader):
    left = read_one(reader)
    word = reader.ahead().text
    if word not in ("until", "unless"):
        return left
    reader.enter_level()
    right = read_until(reader)
    reader.leave_level()
    return Wish(word, 0, None, [left, right])


def read_one(reader):
    word = reader.ahead().text
    if word not in PREFIXES:
        return read_atom(reader)
    reader.enter_level()
    number = 0
    if word == "within":
        number = reader.take_digit(1)
    part = read_one(reader)
    reader.leave_level()
    return Wish(word, number, None, [part])


def read_atom(reader):
    word = reader.ahead().text
    if word == "(":
        return read_bracketed(reader)
    if word in ("true", "false"):
        reader.take(word)
        return Wish(word, 0, None, [])
    if word == "atleast":
        return read_counted(reader, word, 1)
    if word == "atmost":
        return read_counted(reader, word, 0)
    return Wish(PATTERN, 0, reader.take_pattern(), [])


def read_bracketed(reader):
    reader.enter_level()
    wish = read_if(reader)
    reader.take(")")
    reader.leave_level()
    return wish


def read_counted(reader, word, least):
    reader.take(word)
    number = reader.take_digit(least)
    return Wish(word, number, reader.take_pattern(), [])
