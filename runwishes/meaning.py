"""What a wish means: at which of a run's places it holds."""

from runwishes.patterns import fits_event
from runwishes.wishes import PATTERN


def truths_of(wish, events):
    """Whether the wish holds, for each place from 0 to the one behind all events."""
    # A wish has at most 30 nodes, so this calls itself at most 30 deep.
    parts = [truths_of(part, events) for part in wish.parts]
    if len(parts) == 2:
        return truths_of_two(wish.word, parts[0], parts[1])
    if len(parts) == 1:
        return truths_behind_prefix(wish.word, wish.number, parts[0])
    if wish.pattern is None:
        return [wish.word == "true"] * (len(events) + 1)
    return truths_of_pattern(wish, events)


def truths_of_pattern(wish, events):
    """Those of a pattern by itself, of atleast and of atmost."""
    fits = [fits_event(wish.pattern, event) for event in events]
    if wish.word == PATTERN:
        return fits + [False]
    counts = [fits[place:].count(True) for place in range(len(fits) + 1)]
    if wish.word == "atleast":
        return [count >= wish.number for count in counts]
    return [count <= wish.number for count in counts]


def truths_behind_prefix(word, number, part):
    # The place behind all events is left out wherever places are gone through.
    last = len(part) - 1
    places = list(range(len(part)))
    if word == "!":
        return [not truth for truth in part]
    if word == "next":
        return part[1:] + [False]
    if word == "ever":
        return [any(part[place:last]) for place in places]
    if word == "always":
        return [all(part[place:last]) for place in places]
    return [any(part[place:min(place + number, last)]) for place in places]


def truths_of_two(word, left, right):
    places = list(range(len(left)))
    if word == "&":
        return [left[place] and right[place] for place in places]
    if word == "|":
        return [left[place] or right[place] for place in places]
    if word == "->":
        return [not left[place] or right[place] for place in places]
    return truths_up_to(left, right, word == "unless")


def truths_up_to(left, right, at_end):
    """Those of until and unless, which differ in what holds once no event is left."""
    backwards = [at_end]
    for place in range(len(left) - 2, -1, -1):
        backwards.append(right[place] or (left[place] and backwards[-1]))
    return list(reversed(backwards))
