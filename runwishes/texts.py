"""Texts, names and numbers: what runs, patterns and wishes are written with."""

# Bytes 32 to 126 in order. The sign of byte 37 and the bytes outside have no
# use in any text that is read here, so "?", which has none either, stands for
# them: no place is shifted, and nothing that is refused is ever shown.
CHARACTERS = " !\"#$?&'()*+,-./0123456789:;<=>?@ABCDEFGHIJKLMNOPQRSTUVWXYZ[\\]^_`abcdefghijklmnopqrstuvwxyz{|}~"
FIRST_BYTE = 32
USELESS = "?"

LONGEST_NAME = 8
LARGEST_NUMBER = 999
MOST_DIGITS = 3


class TextFault(ValueError):
    """A text that can't be read, with the fault's kind and its place."""

    def __init__(self, kind, place):
        self.kind = kind
        self.place = place


def character_of(byte):
    index = byte - FIRST_BYTE
    if 0 <= index < len(CHARACTERS):
        return CHARACTERS[index]
    return USELESS


def text_of(row):
    return "".join([character_of(byte) for byte in row])


def bytes_of(text):
    return [ord(character) for character in text]


def is_letters(text):
    """Whether the text is one or more small letters."""
    return text.isalpha() and text.islower()


def is_name(text):
    return len(text) <= LONGEST_NAME and is_letters(text)


def read_number(text):
    """The number from 0 to 999 that the text is in decimal, or None."""
    if not text.isdigit() or len(text) > MOST_DIGITS:
        return None
    if len(text) > 1 and text[0] == "0":
        return None
    return int(text)
