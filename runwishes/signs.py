"""Sorts of events: the sign of an event, and samples with every sign of a wish."""

from runwishes.events import Event
from runwishes.patterns import fits_event, fits_name, fits_range
from runwishes.texts import LARGEST_NUMBER

LETTERS = "abcdefghijklmnopqrstuvwxyz"


class Choice:
    """A value for one part of the samples, and the patterns it fits, as a sign."""

    def __init__(self, worth, sign):
        self.worth = worth
        self.sign = sign


def sign_number(truths):
    """1, 2, 4 .. for those of the truths that are so, added."""
    number = 0
    bit = 1
    for truth in truths:
        if truth:
            number += bit
        bit *= 2
    return number


def sign_of(patterns, event):
    return sign_number([fits_event(pattern, event) for pattern in patterns])


def first_samples(patterns):
    """For each sign, in the order in which they come first, its first sample."""
    kinds = name_choices([pattern.kind for pattern in patterns])
    subjects = name_choices([pattern.subject for pattern in patterns])
    numbers = number_choices([pattern.numbers for pattern in patterns])
    gaps = number_choices([pattern.gaps for pattern in patterns])
    samples = {}
    # There may be thousands of samples: a pattern matches if all four parts
    # fit, so a sample's sign is what the signs of its parts have in common.
    for kind in kinds:
        for subject in subjects:
            of_names = kind.sign & subject.sign
            for number in numbers:
                for gap in gaps:
                    sign = of_names & number.sign & gap.sign
                    if sign not in samples:
                        samples[sign] = Event(kind.worth, subject.worth, number.worth, gap.worth)
    return samples


def name_choices(asked):
    """The kinds or subjects of the samples, from those of all the patterns."""
    choices = []
    for name in sample_names(asked):
        choices.append(Choice(name, sign_number([fits_name(one, name) for one in asked])))
    return choices


def sample_names(asked):
    names = []
    for name in asked:
        if name != "" and name not in names:
            names.append(name)
    free = [letter for letter in LETTERS if letter not in names]
    return names + [free[0]]


def number_choices(asked):
    """The numbers or gaps of the samples, from the ranges of all the patterns."""
    choices = []
    for number in sample_numbers(asked):
        choices.append(Choice(number, sign_number([fits_range(one, number) for one in asked])))
    return choices


def sample_numbers(asked):
    numbers = [0]
    for bounds in asked:
        if bounds is not None:
            numbers.append(bounds[0])
            if bounds[1] != LARGEST_NUMBER:
                numbers.append(bounds[1] + 1)
    return sorted(set(numbers))
