"""Meaning, signs and samples against a second telling, word by word as they are defined.

Wishes are tuples here: a word and its parts, a word, a digit and a part, or a
pattern; a pattern is a tuple of four parts, None where it has none.
"""

import itertools
import random
import unittest

from tests.helper import asked, call, with_length

ATOMS = ("true", "false", "pattern", "atleast", "atmost")
PREFIXES = ("!", "next", "ever", "always", "within")
BETWEEN = ("&", "|", "->", "until", "unless")
NAMES = ("a", "b", "c", "f")
EDGES = (0, 1, 2, 5, 6, 998, 999)


def range_text(bounds):
    return f"{bounds[0]}..{bounds[1]}"


def pattern_text(pattern):
    kind, subject, numbers, gaps = pattern
    text = "[" + (kind or "") + ("@" + subject if subject else "")
    text += "#" + range_text(numbers) if numbers else ""
    return text + ("+" + range_text(gaps) if gaps else "") + "]"


def event_text(event):
    return f"{event[0]}@{event[1]}#{event[2]}+{event[3]}"


def wish_text(wish):
    word = wish[0]
    if word == "pattern":
        return pattern_text(wish[1])
    if word in ("atleast", "atmost"):
        return f"{word} {wish[1]} {pattern_text(wish[2])}"
    if word == "within":
        return f"within {wish[1]} {bracketed(wish[2])}"
    if word in PREFIXES:
        return f"{word} {bracketed(wish[1])}"
    return f"{bracketed(wish[1])} {word} {bracketed(wish[2])}" if word in BETWEEN else word


def bracketed(wish):
    return wish_text(wish) if wish[0] in ATOMS else f"({wish_text(wish)})"


def matches(pattern, event):
    kind, subject, numbers, gaps = pattern
    return ((kind is None or kind == event[0]) and (subject is None or subject == event[1])
            and (numbers is None or event[2] in range(numbers[0], numbers[1] + 1))
            and (gaps is None or event[3] in range(gaps[0], gaps[1] + 1)))


def holds(wish, run, i, known):
    """Whether the wish holds at place i; what was found before is known."""
    if (wish, i) not in known:
        known[wish, i] = holds_by_words(wish, run, i, lambda part, j: holds(part, run, j, known))
    return known[wish, i]


def holds_by_words(wish, run, i, at):
    """As the document says it, sentence by sentence; at(part, j) asks elsewhere."""
    word = wish[0]
    n = len(run)

    if word in ("true", "false"):
        return word == "true"
    if word == "pattern":
        return i < n and matches(wish[1], run[i])
    if word == "atleast":
        return len([event for event in run[i:] if matches(wish[2], event)]) >= wish[1]
    if word == "atmost":
        return len([event for event in run[i:] if matches(wish[2], event)]) <= wish[1]
    if word == "within":
        return any(at(wish[2], j) for j in range(i, n) if j < i + wish[1])
    a = wish[1]
    b = wish[-1]
    if word == "!":
        return not at(a, i)
    if word == "next":
        return i < n and at(a, i + 1)
    if word == "ever":
        return any(at(a, j) for j in range(i, n))
    if word == "always":
        return all(at(a, j) for j in range(i, n))
    if word == "&":
        return at(a, i) and at(b, i)
    if word == "|":
        return at(a, i) or at(b, i)
    if word == "->":
        return not at(a, i) or at(b, i)
    if word == "until":
        return any(at(b, j) and all(at(a, k) for k in range(i, j)) for j in range(i, n))
    return at(("until", a, b), i) or at(("always", a), i)


def patterns_of(wish):
    if wish[0] in ("pattern", "atleast", "atmost"):
        return [wish[-1]]
    found = [one for part in wish[1:] if isinstance(part, tuple) for one in patterns_of(part)]
    return list(dict.fromkeys(found))


def sign(patterns, event):
    return sum(2 ** k for k, pattern in enumerate(patterns) if matches(pattern, event))


def sample_names(names):
    taken = list(dict.fromkeys(name for name in names if name))
    return taken + [min(set("abcdefghijklmnopqrstuvwxyz") - set(taken))]


def sample_numbers(ranges):
    there = [bounds for bounds in ranges if bounds]
    return sorted({0} | {first for first, second in there} | {second + 1 for first, second in there if second != 999})


def signs(patterns):
    kinds, subjects, numbers, gaps = list(zip(*patterns)) or [()] * 4
    found = {}
    for event in itertools.product(sample_names(kinds), sample_names(subjects), sample_numbers(numbers), sample_numbers(gaps)):
        found.setdefault(sign(patterns, event), event)
    return found


def some_range(chance):
    if chance.random() < 0.5:
        return None
    return tuple(sorted([chance.choice(EDGES), chance.choice(EDGES)]))


def some_pattern(chance):
    return (chance.choice(NAMES + (None,) * 4), chance.choice(NAMES + (None,) * 4), some_range(chance), some_range(chance))


def some_wish(chance, patterns, nodes):
    if nodes == 1:
        word = chance.choice(("true", "false") + ("pattern",) * 6 + ("atleast", "atmost") * 2)
        if word in ("atleast", "atmost"):
            return (word, chance.randint(1 if word == "atleast" else 0, 4), chance.choice(patterns))
        return (word, chance.choice(patterns)) if word == "pattern" else (word,)
    word = chance.choice(PREFIXES if nodes == 2 else PREFIXES + BETWEEN * 2)
    if word == "within":
        return (word, chance.randint(1, 9), some_wish(chance, patterns, nodes - 1))
    if word in PREFIXES:
        return (word, some_wish(chance, patterns, nodes - 1))
    left = chance.randint(1, nodes - 2)
    return (word, some_wish(chance, patterns, left), some_wish(chance, patterns, nodes - 1 - left))


def some_run(chance, most):
    return [(chance.choice(NAMES), chance.choice(NAMES), chance.choice(EDGES), chance.choice(EDGES))
            for _ in range(chance.randint(0, most))]


def depth(wish):
    if wish[0] in ATOMS:
        return 1
    return 1 + max(depth(part) for part in wish[1:] if isinstance(part, tuple))


class SecondTelling(unittest.TestCase):
    def check_meaning(self, wish, run):
        text = wish_text(wish)
        known = {}
        want = [place for place in range(len(run) + 1) if holds(wish, run, place, known)]
        found = asked(call("load", " ".join(event_text(event) for event in run)), call("places", text),
                      *[call("holds", i, text) for i in range(-1, len(run) + 2)])
        self.assertEqual(found[1], [0] + want, (text, run))
        self.assertEqual(found[2:], [[-2]] + [[0, int(i in want)] for i in range(len(run) + 1)] + [[-2]], (text, run))

    def test_all_small_wishes_on_all_short_runs(self):
        a = ("a", None, None, None)
        b = (None, None, (1, 1), None)
        atoms = [("true",), ("false",), ("pattern", a), ("pattern", b), ("atleast", 1, a), ("atleast", 2, b), ("atmost", 0, b)]
        once = [(word, part) for word in ("!", "next", "ever", "always") for part in atoms]
        once += [("within", 2, part) for part in atoms]
        once += [(word, left, right) for word in BETWEEN for left in atoms for right in atoms]
        twice = [(word, part) for word in ("!", "next", "ever", "always") for part in once]
        events = [("a", "a", 0, 0), ("a", "a", 1, 0), ("b", "a", 1, 0)]
        runs = [list(run) for many in range(4) for run in itertools.product(events, repeat=many)]
        for wish in atoms + once:
            for run in runs:
                self.check_meaning(wish, run)
        for k, wish in enumerate(twice):
            self.check_meaning(wish, runs[k % len(runs)])

    def test_many_wishes_on_many_runs(self):
        chance = random.Random(9)
        for turn in range(1500):
            patterns = [some_pattern(chance) for _ in range(chance.randint(1, 5))]
            wish = some_wish(chance, patterns, chance.randint(1, 9))
            self.check_meaning(wish, some_run(chance, 7))

    def test_large_wishes_on_long_runs(self):
        chance = random.Random(10)
        done = 0
        while done < 60:
            wish = some_wish(chance, [some_pattern(chance) for _ in range(5)], 30)
            # Each part may open two levels here, its own and its bracket's.
            if depth(wish) <= 11:
                self.check_meaning(wish, some_run(chance, 40))
                done += 1

    def test_signs_and_samples(self):
        chance = random.Random(11)
        for turn in range(400):
            wish = some_wish(chance, [some_pattern(chance) for _ in range(5)], chance.randint(1, 12))
            patterns = patterns_of(wish)
            samples = signs(patterns)
            want = [0, len(samples)]
            for number, event in samples.items():
                want += [number] + with_length(event_text(event))
            run = some_run(chance, 12) + [("a", "b", 2, 2)]
            marks = [sign(patterns, event) for event in run]
            text = wish_text(wish)
            found = asked(call("load", " ".join(event_text(event) for event in run)), call("signs", text),
                          *[call("sign", i, text) for i in range(len(run))], *[call("alike", i, text) for i in range(len(run))])
            self.assertEqual(found[1], want, text)
            self.assertEqual(found[2:2 + len(run)], [[0, mark] for mark in marks], text)
            self.assertEqual(found[2 + len(run):], [[0] + [j for j, other in enumerate(marks) if other == mark]
                                                    for mark in marks], text)
            # Every event has one of the wish's signs.
            self.assertLessEqual(set(marks), set(samples), text)

    def test_patterns_and_matches(self):
        chance = random.Random(12)
        for turn in range(400):
            wish = some_wish(chance, [some_pattern(chance) for _ in range(5)], chance.randint(1, 12))
            event = ("a", "b", chance.choice(EDGES), chance.choice(EDGES))
            patterns = patterns_of(wish)
            found = asked(call("load", event_text(event)), call("patterns", wish_text(wish)),
                          *[call("matches", 0, pattern_text(one)) for one in patterns],
                          *[call("show", pattern_text(one)) for one in patterns])
            many = len(patterns)
            self.assertEqual(found[2:2 + many], [[0, int(matches(one, event))] for one in patterns])
            shown = [answer[1:] for answer in found[2 + many:]]
            self.assertEqual(found[1], [0, many] + [number for one in shown for number in [len(one)] + one])


if __name__ == "__main__":
    unittest.main()
