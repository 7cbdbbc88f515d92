"""Events and runs: reading and writing their texts."""

from runwishes.texts import TextFault, is_name, read_number

MOST_EVENTS = 40

NO_EVENT = 1
TOO_MANY_EVENTS = 2


class Event:
    """What happened: a kind, a subject, a number, and the gap ahead of it."""

    def __init__(self, kind, subject, number, gap):
        self.kind = kind
        self.subject = subject
        self.number = number
        self.gap = gap


def read_event(text):
    """The event whose text this is, or None."""
    by_kind = text.partition("@")
    by_subject = by_kind[2].partition("#")
    by_number = by_subject[2].partition("+")
    # Where a sign is missing, what should follow it is empty, and so refused.
    kind = by_kind[0]
    subject = by_subject[0]
    number = read_number(by_number[0])
    gap = read_number(by_number[2])
    if not is_name(kind) or not is_name(subject):
        return None
    if number is None or gap is None:
        return None
    return Event(kind, subject, number, gap)


def event_text(event):
    kind = event.kind
    subject = event.subject
    number = event.number
    gap = event.gap
    return f"{kind}@{subject}#{number}+{gap}"


def read_run(text):
    """The events of a run's text; a TextFault if it has a fault."""
    events = []
    place = 0
    while place < len(text):
        if text[place] == " ":
            place += 1
            continue
        end = token_end(text, place)
        event = read_event(text[place:end])
        if event is None:
            raise TextFault(NO_EVENT, place)
        if len(events) == MOST_EVENTS:
            raise TextFault(TOO_MANY_EVENTS, place)
        events.append(event)
        place = end
    return events


def token_end(text, place):
    """Where the row of bytes other than blanks that goes over the place ends."""
    end = text.find(" ", place)
    if end < 0:
        return len(text)
    return end


def run_text(events):
    return " ".join([event_text(event) for event in events])


def time_of(events, index):
    return sum([event.gap for event in events[:index + 1]])
