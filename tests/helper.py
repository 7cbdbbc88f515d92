"""Telling calls as one list, and cutting what is answered."""

from runwishes.runs import answers

NUMBERS = {
    "load": 0, "add": 1, "put": 2, "drop": 3, "text": 4, "event": 5, "read": 6, "show": 7,
    "holds": 8, "places": 9, "matches": 10, "patterns": 11, "signs": 12, "sign": 13, "alike": 14,
}


def row(text):
    """A text as bytes; a list of bytes is left as it is."""
    return list(text.encode("ascii")) if isinstance(text, str) else list(text)


def call(name, *given):
    """One call as numbers; whole numbers as they are, texts with their length."""
    told = [NUMBERS[name]]
    for thing in given:
        if isinstance(thing, int):
            told.append(thing)
        else:
            told += [len(row(thing))] + row(thing)
    return told


def cut(told):
    """The answers, each by itself."""
    found = []
    place = 0
    while place < len(told):
        end = place + 1 + told[place]
        if end > len(told):
            raise AssertionError("an answer is shorter than its count says")
        found.append(told[place + 1:end])
        place = end
    return found


def asked(*calls):
    """What these calls answer on one new object, one list for each call."""
    joined = [number for one in calls for number in one]
    told = answers(joined)
    if any(type(number) is not int for number in told):
        raise AssertionError("something else than a whole number is answered")
    found = cut(told)
    if len(found) != len(calls):
        raise AssertionError("not one answer for each call")
    return found


def one_answer(name, *given):
    """What one call answers on a new object."""
    return asked(call(name, *given))[0]


def shown(wish):
    """What show tells of the wish, as a text; a fault as it is."""
    answer = one_answer("show", wish)
    return bytes(answer[1:]).decode("ascii") if answer[0] == 0 else answer


def run_of(many):
    """A run's text with so many events, each with another number."""
    return " ".join(f"a@b#{i}+1" for i in range(many))


def text_answer(text):
    return [0] + row(text)


def on_run(run, name, *given):
    """What one call answers on an object that this run was loaded into."""
    found = asked(call("load", run), call(name, *given), call("text"))
    if found[0] != [0] or found[2] != text_answer(run):
        raise AssertionError("the run is not the one that was loaded")
    return found[1]


def with_length(text):
    return [len(text)] + row(text)


# A wish's text for each of its faults, and the fault.
FAULTS = [
    ("true" + " " * 997, [1, 0]), ("[a", [2, 0]), ("within 10 true", [2, 7]), ("always", [3, 6]), ("", [3, 0]),
    ("[a] [b]", [3, 4]), ("(" * 21, [4, 20]), ("true & " * 15 + "true", [5, 0]),
    ("[a]&[b]&[c]&[d]&[e]&[f]", [6, 0]),
]
