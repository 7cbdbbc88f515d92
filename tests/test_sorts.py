"""patterns, signs, sign and alike: promises 12 to 15."""

import unittest

from tests.helper import FAULTS, asked, call, cut, on_run, one_answer, run_of, text_answer, with_length

LARGE = 10 ** 18

DOOR = "open@door#5+3 shut@door#0+12"
WISH = "[open#..5] & ![shut]"


def patterns_of(wish):
    """The texts that patterns tells of the wish."""
    answer = one_answer("patterns", wish)
    texts = [bytes(one).decode("ascii") for one in cut(answer[2:])]
    if answer[0] != 0 or answer[1] != len(texts):
        raise AssertionError(f"{answer} is no list of patterns")
    return texts


def signs_of(wish):
    """The signs that signs tells of the wish, each with its event's text."""
    answer = one_answer("signs", wish)
    found = []
    place = 2
    while place < len(answer):
        first = place + 2
        place = first + answer[place + 1]
        found.append((answer[first - 2], bytes(answer[first:place]).decode("ascii")))
    if answer[0] != 0 or answer[1] != len(found) or place != len(answer):
        raise AssertionError(f"{answer} is no list of signs")
    return found


class Patterns(unittest.TestCase):
    def test_the_very_numbers(self):
        self.assertEqual(one_answer("patterns", WISH), [0, 2] + with_length("[open#..5]") + with_length("[shut]"))
        self.assertEqual(one_answer("patterns", "[]"), [0, 1, 2, 91, 93])

    def test_none(self):
        for wish in ("true", "!false", "next true until within 3 false"):
            self.assertEqual(one_answer("patterns", wish), [0, 0], wish)

    def test_from_the_left_to_the_right(self):
        for word in ("->", "|", "&", "until", "unless"):
            self.assertEqual(patterns_of(f"[b] {word} [a] {word} [c]"), ["[b]", "[a]", "[c]"], word)
            self.assertEqual(patterns_of(f"([b] {word} [a]) {word} [c]"), ["[b]", "[a]", "[c]"], word)
            self.assertEqual(patterns_of(f"[b] {word} ([a] {word} [c])"), ["[b]", "[a]", "[c]"], word)
        self.assertEqual(patterns_of("!next ever always within 2 [z] -> ([y] | [x]) & [w] until [v]"),
                         ["[z]", "[y]", "[x]", "[w]", "[v]"])

    def test_each_once(self):
        self.assertEqual(patterns_of("[a] & [b] & [a] & [c] & [b]"), ["[a]", "[b]", "[c]"])
        self.assertEqual(patterns_of("[a] & ![a]"), ["[a]"])

    def test_those_of_atleast_and_atmost(self):
        self.assertEqual(patterns_of("atmost 0 [c] | [b] | atleast 2 [a] | [c]"), ["[c]", "[b]", "[a]"])
        self.assertEqual(patterns_of("atleast 1 [a] & atmost 2 [a]"), ["[a]"])

    def test_by_their_own_texts(self):
        for written, own in [("[#7..7]", "[#7]"), ("[#0..5]", "[#..5]"), ("[+5..999]", "[+5..]"), ("[+0..]", "[+0..999]"),
                             ("[#..999]", "[#0..999]"), ("[#..0]", "[#0]"), ("[+999..]", "[+999]"), ("[a@b#2..3+1]", "[a@b#2..3+1]"),
                             ("[abcdefgh@ijklmnop#0..998+1..999]", "[abcdefgh@ijklmnop#..998+1..]")]:
            self.assertEqual(patterns_of(f"true & {written}"), [own], written)
            self.assertEqual(patterns_of(f"{written} & atmost 3 {own} | {written}"), [own], written)

    def test_five_of_the_longest(self):
        five = [f"[abcdefgh@ijklmnop#10{k}..998+101..997]" for k in range(5)]
        self.assertEqual(patterns_of(" & ".join(five)), five)

    def test_faults(self):
        for wish, fault in FAULTS:
            self.assertEqual(on_run(DOOR, "patterns", wish), fault, wish)


class Signs(unittest.TestCase):
    def test_the_example(self):
        self.assertEqual(one_answer("signs", WISH), [0, 3, 1, 10] + [111, 112, 101, 110, 64, 97, 35, 48, 43, 48]
                         + [0] + with_length("open@a#6+0") + [2] + with_length("shut@a#0+0"))
        self.assertEqual(signs_of(WISH), [(1, "open@a#0+0"), (0, "open@a#6+0"), (2, "shut@a#0+0")])

    def test_without_patterns(self):
        for wish in ("true", "false", "always !true"):
            self.assertEqual(one_answer("signs", wish), [0, 1, 0] + with_length("a@a#0+0"), wish)

    def test_a_pattern_that_matches_all(self):
        self.assertEqual(signs_of("[]"), [(1, "a@a#0+0")])
        self.assertEqual(signs_of("[#0..]"), [(1, "a@a#0+0")])
        self.assertEqual(signs_of("[+..999]"), [(1, "a@a#0+0")])

    def test_the_first_free_name(self):
        for wish, want in [
            ("[a]", [(1, "a@a#0+0"), (0, "b@a#0+0")]),
            ("[b]", [(1, "b@a#0+0"), (0, "a@a#0+0")]),
            ("[a] & [b]", [(1, "a@a#0+0"), (2, "b@a#0+0"), (0, "c@a#0+0")]),
            ("[b] & [a]", [(1, "b@a#0+0"), (2, "a@a#0+0"), (0, "c@a#0+0")]),
            ("[a] & [c]", [(1, "a@a#0+0"), (2, "c@a#0+0"), (0, "b@a#0+0")]),
            ("[@a]", [(1, "a@a#0+0"), (0, "a@b#0+0")]),
            ("[@b] & [@a]", [(1, "a@b#0+0"), (2, "a@a#0+0"), (0, "a@c#0+0")]),
            ("[aa]", [(1, "aa@a#0+0"), (0, "a@a#0+0")]),
            ("[@door]", [(1, "a@door#0+0"), (0, "a@a#0+0")]),
            ("[e]|[d]|[c]|[b]|[a]", [(1, "e@a#0+0"), (2, "d@a#0+0"), (4, "c@a#0+0"), (8, "b@a#0+0"), (16, "a@a#0+0"),
                                     (0, "f@a#0+0")]),
        ]:
            self.assertEqual(signs_of(wish), want, wish)

    def test_kinds_do_not_take_the_names_of_subjects(self):
        self.assertEqual(signs_of("[a@b]"), [(1, "a@b#0+0"), (0, "a@a#0+0")])
        self.assertEqual(signs_of("[@a]&[b]"), [(3, "b@a#0+0"), (2, "b@b#0+0"), (1, "a@a#0+0"), (0, "a@b#0+0")])

    def test_numbers_and_gaps(self):
        for sign, other in (("#", "a@a#{}+0"), ("+", "a@a#0+{}")):
            def check(ranges, want):
                wish = " & ".join(f"[{sign}{one}]" for one in ranges)
                self.assertEqual(signs_of(wish), [(mark, other.format(number)) for mark, number in want], wish)

            check(["5"], [(0, 0), (1, 5)])
            check(["0"], [(1, 0), (0, 1)])
            check(["..5"], [(1, 0), (0, 6)])
            check(["5.."], [(0, 0), (1, 5)])
            check(["999"], [(0, 0), (1, 999)])
            check(["..998"], [(1, 0), (0, 999)])
            check(["998"], [(0, 0), (1, 998)])
            check(["1..998"], [(0, 0), (1, 1)])
            check(["2..5", "4..8"], [(0, 0), (1, 2), (3, 4), (2, 6)])
            check(["4..8", "2..5"], [(0, 0), (2, 2), (3, 4), (1, 6)])
            check(["..5", "6.."], [(1, 0), (2, 6)])
            check(["7", "7..9"], [(0, 0), (3, 7), (2, 8)])
            check(["10..", "9..", "100.."], [(0, 0), (2, 9), (3, 10), (7, 100)])
            check(["0..", "..999", "1.."], [(1, 0), (3, 1)])

    def test_the_order_of_the_samples(self):
        # Gaps go round fastest, then numbers, then subjects, then kinds.
        self.assertEqual(signs_of("[a] & [@a] & [#1..] & [+1..]"), [
            (3, "a@a#0+0"), (11, "a@a#0+1"), (7, "a@a#1+0"), (15, "a@a#1+1"),
            (1, "a@b#0+0"), (9, "a@b#0+1"), (5, "a@b#1+0"), (13, "a@b#1+1"),
            (2, "b@a#0+0"), (10, "b@a#0+1"), (6, "b@a#1+0"), (14, "b@a#1+1"),
            (0, "b@b#0+0"), (8, "b@b#0+1"), (4, "b@b#1+0"), (12, "b@b#1+1")])

    def test_only_the_first_sample_of_each_sign(self):
        self.assertEqual(signs_of("[#5]"), [(0, "a@a#0+0"), (1, "a@a#5+0")])
        self.assertEqual(signs_of("[x#5] | [y]"), [(0, "x@a#0+0"), (1, "x@a#5+0"), (2, "y@a#0+0")])
        self.assertEqual(signs_of("[x@y#5+5]"), [(0, "x@y#0+0"), (1, "x@y#5+5")])

    def test_five_patterns_with_all_thirty_two_signs(self):
        found = signs_of("[k] & [@s] & [#10..] & [+10..] & [#5..19]")
        self.assertEqual(sorted(sign for sign, text in found), list(range(32)))
        self.assertEqual(found[0], (3, "k@s#0+0"))
        self.assertEqual(found[1], (11, "k@s#0+10"))
        self.assertEqual(found[2], (19, "k@s#5+0"))
        self.assertEqual(found[-1], (12, "a@a#20+10"))

    def test_long_names_and_numbers(self):
        found = signs_of("[abcdefgh] & [@ijklmnop] & [#100..] & [+100..] & [#50..199]")
        self.assertEqual(len(found), 32)
        self.assertEqual(found[0], (3, "abcdefgh@ijklmnop#0+0"))
        self.assertEqual(found[5], (31, "abcdefgh@ijklmnop#100+100"))

    def test_patterns_written_otherwise(self):
        self.assertEqual(signs_of("[#0..5] & [#..5] & [b]"), signs_of("[#..5] & [b]"))
        self.assertEqual(signs_of("atleast 2 [x] -> atmost 0 [y]"), signs_of("[x] & [y]"))

    def test_the_run_has_no_part_in_it(self):
        self.assertEqual(on_run(run_of(40), "signs", WISH), one_answer("signs", WISH))

    def test_faults(self):
        for wish, fault in FAULTS:
            self.assertEqual(on_run(DOOR, "signs", wish), fault, wish)


class NoEventAndFaults(unittest.TestCase):
    """What sign and alike have in common."""

    def test_there_is_no_event_i(self):
        for many in (0, 1, 2, 40):
            for i in (-1, -2, many, many + 1, LARGE, -LARGE):
                for wish in [WISH] + [wish for wish, fault in FAULTS]:
                    self.assertEqual(on_run(run_of(many), "sign", i, wish), [-2], (i, wish))
                    self.assertEqual(on_run(run_of(many), "alike", i, wish), [-2], (i, wish))

    def test_faults(self):
        for wish, fault in FAULTS:
            for i in (0, 1):
                self.assertEqual(on_run(DOOR, "sign", i, wish), fault, wish)
                self.assertEqual(on_run(DOOR, "alike", i, wish), fault, wish)


class Sign(unittest.TestCase):
    def test_the_example(self):
        self.assertEqual(on_run(DOOR, "sign", 1, WISH), [0, 2])
        self.assertEqual(on_run(DOOR, "sign", 0, WISH), [0, 1])

    def test_each_event_of_a_run(self):
        wish = "[a] | [@b] | atleast 1 [#5..] | atmost 3 [+..2] | []"
        run = "a@b#5+2 a@b#5+3 a@b#4+2 a@c#5+2 c@b#5+2 c@c#0+9 a@a#4+3 b@b#4+3 b@a#999+3 b@a#0+0"
        found = asked(call("load", run), *[call("sign", i, wish) for i in range(10)])
        self.assertEqual(found[1:], [[0, 31], [0, 23], [0, 27], [0, 29], [0, 30], [0, 16], [0, 17], [0, 18], [0, 20],
                                     [0, 24]])

    def test_without_patterns(self):
        self.assertEqual(on_run(DOOR, "sign", 1, "true"), [0, 0])

    def test_a_pattern_that_stands_twice_counts_once(self):
        self.assertEqual(on_run(DOOR, "sign", 0, "[open] & [open#0..] & [open] & [#..999]"), [0, 7])
        self.assertEqual(on_run(DOOR, "sign", 1, "[open] & [open#0..] & [open] & [#..999]"), [0, 4])


class Alike(unittest.TestCase):
    def check(self, run, wish, groups):
        for group in groups:
            for i in group:
                self.assertEqual(on_run(run, "alike", i, wish), [0] + group, (wish, i))

    def test_the_same_sign(self):
        run = "a@x#1+1 b@x#2+2 a@y#3+3 c@x#4+4 b@y#5+5 d@z#6+6"
        self.check(run, "[a] & [b]", [[0, 2], [1, 4], [3, 5]])
        self.check(run, "[@x]", [[0, 1, 3], [2, 4, 5]])
        self.check(run, "[#..3] | [#4..]", [[0, 1, 2], [3, 4, 5]])
        self.check(run, "[@x] -> [+2..4]", [[0], [1, 3], [2], [4, 5]])
        self.check(run, "atleast 2 [a] | atmost 0 [b]", [[0, 2], [1, 4], [3, 5]])

    def test_all(self):
        for wish in ("true", "[]", "[z]", "[a] | [#..999]"):
            self.check(run_of(40), wish, [list(range(40))])

    def test_only_i(self):
        run = run_of(4)
        self.check(run, "[#1] | [#2] | [#3]", [[0], [1], [2], [3]])
        self.check("a@b#0+0", "[a]", [[0]])
        self.check("a@b#0+0", "[b]", [[0]])

    def test_the_same_whether_they_hold_or_not(self):
        # Both patterns together tell events apart that the wish itself does not.
        self.check("a@x#0+0 b@x#0+0 c@x#0+0", "[a] | [b]", [[0], [1], [2]])

    def test_the_example(self):
        self.check(DOOR, WISH, [[0], [1]])

    def test_the_run_is_as_it_was(self):
        found = asked(call("load", DOOR), call("alike", 2, WISH), call("alike", 0, "["), call("alike", 1, WISH),
                      call("text"))
        self.assertEqual(found, [[0], [-2], [2, 0], [0, 1], text_answer(DOOR)])


if __name__ == "__main__":
    unittest.main()
