"""The calls on one object that holds a run, and what they answer."""

from runwishes.events import MOST_EVENTS, read_event, read_run, run_text, time_of
from runwishes.reading import read_wish
from runwishes.showing import wish_text
from runwishes.texts import TextFault, bytes_of, text_of
from runwishes.wishes import patterns_of

LOAD = 0
ADD = 1
PUT = 2
DROP = 3
TEXT = 4
EVENT = 5
READ = 6
SHOW = 7

# How all fifteen calls are told, those that are not answered yet too: put,
# event, holds, matches, sign and alike have a number ahead of their text;
# drop, text and event have no text.
CALLS_WITH_INDEX = (2, 5, 8, 10, 13, 14)
CALLS_WITHOUT_TEXT = (3, 4, 5)

NOT_AN_EVENT = -1
NO_SUCH_PLACE = -2
RUN_IS_FULL = -3
RUN_IS_EMPTY = -4


class Run:
    """The object that the calls are made on."""

    def __init__(self):
        self.events = []

    def has_event(self, index):
        return 0 <= index < len(self.events)


class Call:
    """One call, and where in the list of calls the next one begins."""

    def __init__(self, number, index, text, behind):
        self.number = number
        self.index = index
        self.text = text
        self.behind = behind


def answers(calls):
    """What the calls on a new object answer, each with its length ahead."""
    run = Run()
    told = []
    begin = 0
    while begin < len(calls):
        call = cut_call(calls, begin)
        answer = answer_of(run, call)
        told.append(len(answer))
        told.extend(answer)
        begin = call.behind
    return told


def cut_call(calls, begin):
    number = calls[begin]
    behind = begin + 1
    index = 0
    if number in CALLS_WITH_INDEX:
        index = calls[behind]
        behind += 1
    text = ""
    if number not in CALLS_WITHOUT_TEXT:
        first = behind + 1
        behind = first + calls[behind]
        text = text_of(calls[first:behind])
    return Call(number, index, text, behind)


def answer_of(run, call):
    try:
        return made_answer(run, call)
    except TextFault as fault:
        return [fault.kind, fault.place]


def made_answer(run, call):
    if call.number == LOAD:
        return load(run, call.text)
    if call.number == ADD:
        return add(run, call.text)
    if call.number == PUT:
        return put(run, call.index, call.text)
    if call.number == DROP:
        return drop(run)
    if call.number == TEXT:
        return [0] + bytes_of(run_text(run.events))
    if call.number == EVENT:
        return tell_event(run, call.index)
    if call.number == READ:
        return read(call.text)
    if call.number == SHOW:
        return [0] + bytes_of(wish_text(read_wish(call.text)))
    # The calls behind show are cut out of the list but answer nothing yet.
    return []


def load(run, text):
    run.events = read_run(text)
    return [0]


def add(run, text):
    event = read_event(text)
    if event is None:
        return [NOT_AN_EVENT]
    if len(run.events) == MOST_EVENTS:
        return [RUN_IS_FULL]
    run.events.append(event)
    return [len(run.events)]


def put(run, index, text):
    if not run.has_event(index):
        return [NO_SUCH_PLACE]
    event = read_event(text)
    if event is None:
        return [NOT_AN_EVENT]
    run.events[index] = event
    return [0]


def drop(run):
    if len(run.events) == 0:
        return [RUN_IS_EMPTY]
    run.events.pop()
    return [len(run.events)]


def tell_event(run, index):
    if not run.has_event(index):
        return [NO_SUCH_PLACE]
    event = run.events[index]
    kind = bytes_of(event.kind)
    subject = bytes_of(event.subject)
    told = [0, time_of(run.events, index), event.gap, event.number]
    return told + [len(kind)] + kind + [len(subject)] + subject


def read(text):
    wish = read_wish(text)
    return [0, wish.nodes, len(patterns_of(wish))]
