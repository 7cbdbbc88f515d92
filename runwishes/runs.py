"""The calls on one object that holds a run, and what they answer."""

from runwishes.events import MOST_EVENTS, event_text, read_event, read_run, run_text, time_of
from runwishes.meaning import truths_of
from runwishes.patterns import fits_event, pattern_text, read_pattern
from runwishes.reading import read_wish
from runwishes.showing import wish_text
from runwishes.signs import first_samples, sign_of
from runwishes.texts import TextFault, bytes_of, text_of
from runwishes.wishes import patterns_of

LOAD = 0
ADD = 1
PUT = 2
DROP = 3
TEXT = 4
EVENT = 5
READ = 6
SHOW = 7
HOLDS = 8
PLACES = 9
MATCHES = 10
PATTERNS = 11
SIGNS = 12
SIGN = 13

# Put, event, holds, matches, sign and alike have a number ahead of their text;
# drop, text and event have no text.
CALLS_WITH_INDEX = (2, 5, 8, 10, 13, 14)
CALLS_WITHOUT_TEXT = (3, 4, 5)

NOT_AN_EVENT = -1
NO_SUCH_PLACE = -2
RUN_IS_FULL = -3
RUN_IS_EMPTY = -4
NOT_A_PATTERN = -5


class Run:
    """The object that the calls are made on."""

    def __init__(self):
        self.events = []

    def has_event(self, index):
        return 0 <= index < len(self.events)

    def has_place(self, index):
        """There is one more place than there are events."""
        return 0 <= index <= len(self.events)


class Call:
    """One call, and where in the list of calls the next one begins."""

    def __init__(self, number, index, text, behind):
        self.number = number
        self.index = index
        self.text = text
        self.behind = behind


def answers(calls):
    """What the calls on a new object answer, each with its length ahead."""
    run = Run()
    told = []
    begin = 0
    while begin < len(calls):
        call = cut_call(calls, begin)
        answer = answer_of(run, call)
        told.append(len(answer))
        told.extend(answer)
        begin = call.behind
    return told


def cut_call(calls, begin):
    number = calls[begin]
    behind = begin + 1
    index = 0
    if number in CALLS_WITH_INDEX:
        index = calls[behind]
        behind += 1
    text = ""
    if number not in CALLS_WITHOUT_TEXT:
        first = behind + 1
        behind = first + calls[behind]
        text = text_of(calls[first:behind])
    return Call(number, index, text, behind)


def answer_of(run, call):
    try:
        return made_answer(run, call)
    except TextFault as fault:
        return [fault.kind, fault.place]


def made_answer(run, call):
    if call.number == LOAD:
        return load(run, call.text)
    if call.number == ADD:
        return add(run, call.text)
    if call.number == PUT:
        return put(run, call.index, call.text)
    if call.number == DROP:
        return drop(run)
    if call.number == TEXT:
        return [0] + bytes_of(run_text(run.events))
    if call.number == EVENT:
        return tell_event(run, call.index)
    if call.number == MATCHES:
        return tell_matches(run, call.index, call.text)
    return wish_answer(run, call)


def wish_answer(run, call):
    """What the calls that are given a wish's text answer."""
    if call.number == READ:
        return tell_counts(read_wish(call.text))
    if call.number == SHOW:
        return [0] + bytes_of(wish_text(read_wish(call.text)))
    if call.number == HOLDS:
        return tell_holds(run, call.index, call.text)
    if call.number == PLACES:
        return tell_places(run, read_wish(call.text))
    if call.number == PATTERNS:
        return tell_patterns(read_wish(call.text))
    if call.number == SIGNS:
        return tell_signs(read_wish(call.text))
    if call.number == SIGN:
        return tell_sign(run, call.index, call.text)
    # Alike, 14, is the one call that is left.
    return tell_alike(run, call.index, call.text)


def load(run, text):
    run.events = read_run(text)
    return [0]


def add(run, text):
    event = read_event(text)
    if event is None:
        return [NOT_AN_EVENT]
    if len(run.events) == MOST_EVENTS:
        return [RUN_IS_FULL]
    run.events.append(event)
    return [len(run.events)]


def put(run, index, text):
    if not run.has_event(index):
        return [NO_SUCH_PLACE]
    event = read_event(text)
    if event is None:
        return [NOT_AN_EVENT]
    run.events[index] = event
    return [0]


def drop(run):
    if len(run.events) == 0:
        return [RUN_IS_EMPTY]
    run.events.pop()
    return [len(run.events)]


def tell_event(run, index):
    if not run.has_event(index):
        return [NO_SUCH_PLACE]
    event = run.events[index]
    told = [0, time_of(run.events, index), event.gap, event.number]
    return told + with_length(event.kind) + with_length(event.subject)


def with_length(text):
    return [len(text)] + bytes_of(text)


def tell_matches(run, index, text):
    if not run.has_event(index):
        return [NO_SUCH_PLACE]
    pattern = read_pattern(text)
    if pattern is None:
        return [NOT_A_PATTERN]
    return [0, number_of_truth(fits_event(pattern, run.events[index]))]


def number_of_truth(truth):
    return 1 if truth else 0


def tell_counts(wish):
    return [0, wish.nodes, len(patterns_of(wish))]


# Where a call has an index, the wish is read only once there is such a place
# or event: the refusal comes ahead of the wish's fault.

def tell_holds(run, index, text):
    if not run.has_place(index):
        return [NO_SUCH_PLACE]
    truths = truths_of(read_wish(text), run.events)
    return [0, number_of_truth(truths[index])]


def tell_places(run, wish):
    truths = truths_of(wish, run.events)
    return [0] + [place for place in range(len(truths)) if truths[place]]


def tell_patterns(wish):
    patterns = patterns_of(wish)
    told = [0, len(patterns)]
    for pattern in patterns:
        told.extend(with_length(pattern_text(pattern)))
    return told


def tell_signs(wish):
    samples = first_samples(patterns_of(wish))
    told = [0, len(samples)]
    for sign in samples:
        told.append(sign)
        told.extend(with_length(event_text(samples[sign])))
    return told


def tell_sign(run, index, text):
    if not run.has_event(index):
        return [NO_SUCH_PLACE]
    return [0, sign_of(patterns_of(read_wish(text)), run.events[index])]


def tell_alike(run, index, text):
    if not run.has_event(index):
        return [NO_SUCH_PLACE]
    patterns = patterns_of(read_wish(text))
    signs = [sign_of(patterns, event) for event in run.events]
    return [0] + [other for other in range(len(signs)) if signs[other] == signs[index]]
