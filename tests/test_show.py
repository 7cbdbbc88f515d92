"""show: promise 8, the one form."""

import unittest

from runwishes.reading import read_wish
from tests.helper import asked, call, one_answer, shown, text_answer

TWO_PARTS = ("->", "|", "&", "until", "unless")
ONE_PART = ("!", "next", "within 7")
WORDS = {"within 7": "within"}


class OneForm(unittest.TestCase):
    def check(self, pairs):
        for wish, want in pairs:
            self.assertEqual(shown(wish), want, wish)
            self.assertEqual(shown(want), want, wish)

    def test_the_example(self):
        self.check([("((([a]))|[b]|([c]->true))&!!true", "([a] | [b] | ([c] -> true)) & !!true")])

    def test_each_sort_of_wish(self):
        self.check([
            (" true ", "true"), ("false", "false"), ("[a@b#1+2]", "[a@b#1+2]"), ("[]", "[]"),
            ("! true", "!true"), ("! !true", "!!true"), ("next(true)", "next true"), ("ever[a]", "ever [a]"),
            ("always  true", "always true"), ("within3true", "within 3 true"), ("atleast2[a]", "atleast 2 [a]"),
            ("atmost0[]", "atmost 0 []"), ("true&false", "true & false"), ("true|false", "true | false"),
            ("true->false", "true -> false"), ("[a]until[b]", "[a] until [b]"), ("[a]unless[b]", "[a] unless [b]"),
            ("!next(ever always within 9 !true)", "!next ever always within 9 !true"),
        ])

    def test_texts_of_ranges(self):
        for text, want in [
            ("7", "7"), ("7..7", "7"), ("0", "0"), ("..0", "0"), ("0..0", "0"), ("999", "999"), ("999..", "999"),
            ("999..999", "999"), ("5..", "5.."), ("5..999", "5.."), ("1..", "1.."), ("998..999", "998.."),
            ("..5", "..5"), ("0..5", "..5"), ("0..1", "..1"), ("..998", "..998"), ("0..998", "..998"),
            ("0..", "0..999"), ("..999", "0..999"), ("0..999", "0..999"),
            ("2..5", "2..5"), ("1..998", "1..998"), ("10..100", "10..100"),
        ]:
            self.check([(f"[#{text}]", f"[#{want}]"), (f"[+{text}]", f"[+{want}]"),
                        (f"atleast 3 [ab@cd#{text}+{text}]", f"atleast 3 [ab@cd#{want}+{want}]")])

    def test_parts_of_patterns(self):
        for wish in ("[a]", "[@b]", "[#1]", "[+2]", "[a@b]", "[a#1]", "[a+2]", "[@b#1]", "[@b+2]", "[#1+2]", "[a@b#1]",
                     "[a@b+2]", "[a#1+2]", "[@b#1+2]", "[a@b#1+2]", "[abcdefgh@ijklmnop#100..998+101..997]"):
            self.check([(wish, wish)])

    def test_to_the_left_and_to_the_right(self):
        self.check([
            ("([a]|[b])|[c]", "[a] | [b] | [c]"), ("[a]|([b]|[c])", "[a] | ([b] | [c])"),
            ("([a]&[b])&[c]", "[a] & [b] & [c]"), ("[a]&([b]&[c])", "[a] & ([b] & [c])"),
            ("([a]->[b])->[c]", "([a] -> [b]) -> [c]"), ("[a]->([b]->[c])", "[a] -> [b] -> [c]"),
            ("([a]until[b])until[c]", "([a] until [b]) until [c]"), ("[a]until([b]until[c])", "[a] until [b] until [c]"),
            ("([a]unless[b])unless[c]", "([a] unless [b]) unless [c]"),
            ("[a]unless([b]unless[c])", "[a] unless [b] unless [c]"),
            ("([a]until[b])unless[c]", "([a] until [b]) unless [c]"),
            ("[a]unless([b]until[c])", "[a] unless [b] until [c]"),
        ])

    def test_brackets_that_must_stand(self):
        self.check([(wish, wish) for wish in (
            "([a] -> [b]) | [c]", "[a] | ([b] -> [c])", "([a] | [b]) & [c]", "[a] & ([b] | [c])", "([a] -> [b]) & [c]",
            "([a] & [b]) until [c]", "[a] until ([b] & [c])", "[a] unless ([b] | [c])", "([a] -> [b]) unless [c]",
            "!([a] until [b])", "next ([a] & [b])", "ever ([a] | [b])", "always ([a] -> [b])", "within 2 ([a] unless [b])",
        )])

    def test_brackets_that_must_not(self):
        self.check([
            ("([a]|[b])->([c]|[d])", "[a] | [b] -> [c] | [d]"), ("([a]&[b])|([c]&[d])", "[a] & [b] | [c] & [d]"),
            ("([a]until[b])&([c]unless[d])", "[a] until [b] & [c] unless [d]"),
            ("(![a])until(next[b])", "![a] until next [b]"), ("(within 2[a])unless(ever[b])", "within 2 [a] unless ever [b]"),
            ("!(![a])", "!![a]"), ("!(atleast 2[a])", "!atleast 2 [a]"), ("(atmost 2[a])until([b])", "atmost 2 [a] until [b]"),
            ("((true))->((false))", "true -> false"), ("always(next(true))", "always next true"),
        ])

    def test_a_fault_is_told_and_nothing_changed(self):
        for wish, fault in [(" " * 1001, [1, 0]), ("[a", [2, 0]), ("always", [3, 6]), ("(" * 21, [4, 20]),
                            ("!" + "true&" * 14 + "true&true", [5, 0]), ("[a]&[b]&[c]&[d]&[e]&[f]", [6, 0])]:
            found = asked(call("load", "a@b#1+1"), call("show", wish), call("text"))
            self.assertEqual(found, [[0], fault, text_answer("a@b#1+1")], wish)

    def test_a_wish_with_many_nodes(self):
        wish = "true & " * 14 + "!true"
        self.assertEqual(one_answer("show", "(" * 14 + "true" + "&true)" * 14 + "&!true"), [5, 0])
        self.assertEqual(one_answer("show", "(" * 13 + "true" + "&true)" * 13 + "&!true"),
                         text_answer("true & " * 14 + "!true"))
        self.assertEqual(shown(wish), wish)


def trees(nodes):
    """All wishes with so many nodes, as tuples of a word and its parts."""
    if nodes == 1:
        return [("true",)]
    found = [(word, part) for word in ONE_PART for part in trees(nodes - 1)]
    for left in range(1, nodes - 1):
        found += [(word, a, b) for word in TWO_PARTS for a in trees(left) for b in trees(nodes - 1 - left)]
    return found


def bracketed(tree):
    if len(tree) == 1:
        return tree[0]
    if len(tree) == 2:
        return f"{tree[0]} ({bracketed(tree[1])})"
    return f"({bracketed(tree[1])}) {tree[0]} ({bracketed(tree[2])})"


def as_tree(wish):
    word = f"{wish.word} {wish.number}" if wish.word == "within" else wish.word
    return (word,) + tuple(as_tree(part) for part in wish.parts)


def without_a_pair(text):
    """The texts that come of taking out one pair of round brackets."""
    waiting = []
    for place, character in enumerate(text):
        if character == "(":
            waiting.append(place)
        if character == ")":
            first = waiting.pop()
            yield text[:first] + text[first + 1:place] + text[place + 1:]


class AllSmallWishes(unittest.TestCase):
    def test_read_back_as_they_are_and_no_bracket_needless(self):
        for nodes in range(1, 6):
            for tree in trees(nodes):
                text = shown(bracketed(tree))
                self.assertEqual(as_tree(read_wish(text)), tree, text)
                self.assertEqual(shown(text), text)
                for shorter in without_a_pair(text):
                    self.assertNotEqual(as_tree(read_wish(shorter)), tree, text)


if __name__ == "__main__":
    unittest.main()
