"""matches: promise 11, and what a pattern matches."""

import unittest

from tests.helper import asked, call, on_run, one_answer, run_of, text_answer

LARGE = 10 ** 18

EVENT = "open@door#50+7"

MATCHING = [
    "[]", "[open]", "[@door]", "[#50]", "[+7]", "[open@door]", "[open#50]", "[open+7]", "[@door#50]", "[@door+7]",
    "[#50+7]", "[open@door#50]", "[open@door+7]", "[open#50+7]", "[@door#50+7]", "[open@door#50+7]",
    "[open@door#49..51+6..8]", "[#0..999+0..999]", "[#50..+..7]", "[#..50+7..]",
]

NOT_MATCHING = [
    "[shut]", "[@gate]", "[#51]", "[+8]", "[door]", "[@open]", "[#7]", "[+50]", "[ope]", "[opens]", "[@doo]", "[@doors]",
    "[shut@door#50+7]", "[open@gate#50+7]", "[open@door#49+7]", "[open@door#50+6]", "[door@open]", "[open@open]",
    "[shut@door]", "[open@gate]", "[open#5]", "[open+70]", "[@door#51..]", "[@door+..6]", "[#50+8..9]", "[#51..52+7]",
]

NO_PATTERNS = [
    "", " ", "[", "]", "[ ]", " []", "[] ", " [open]", "[open] ", "[open ]", "[ open]", "[open @door]", "[open@ door]",
    "[open# 50]", "[open#50 +7]", "[#1 ..2]", "[#1.. 2]", "open", "open@door#50+7", "[open", "open]", "[open]]", "[[open]",
    "[open][open]", "true", "false", "![open]", "([open])", "[open] & [open]", "atleast 1 [open]", "atmost 0 []", "next []",
    "[#..]", "[+..]", "[open@door#..+7]", "[#5..4]", "[+5..4]", "[#999..0]", "[#1..0]", "[#]", "[+]", "[@]", "[open@]",
    "[open#]", "[open+]", "[#1000]", "[+1000]", "[#1..1000]", "[#01]", "[+00]", "[#0..01]", "[#.]", "[#1.]", "[#1.2]",
    "[#1...2]", "[#-1]", "[#50#50]", "[+7+7]", "[+7#50]", "[#50@door]", "[@door@door]", "[@dooropen#50]]", "[abcdefghi]",
    "[@abcdefghi]", "[Open]", "[open1]", "[5]", "[7..]", "(open)", "{open}", "[open@door#50+7", "[open@door#50+7]x",
]

# Texts of ranges that can be read, with the first and the second number.
RANGES = [
    ("7", 7, 7), ("7..7", 7, 7), ("0", 0, 0), ("0..0", 0, 0), ("..0", 0, 0), ("999", 999, 999), ("999..", 999, 999),
    ("999..999", 999, 999), ("5..", 5, 999), ("5..999", 5, 999), ("..5", 0, 5), ("0..5", 0, 5), ("2..5", 2, 5),
    ("0..", 0, 999), ("..999", 0, 999), ("0..999", 0, 999), ("1..998", 1, 998), ("99..100", 99, 100), ("9..10", 9, 10),
    ("..998", 0, 998), ("1..", 1, 999),
]


class Matches(unittest.TestCase):
    def test_each_part_alone_and_together(self):
        for text in MATCHING:
            self.assertEqual(on_run(EVENT, "matches", 0, text), [0, 1], text)
        for text in NOT_MATCHING:
            self.assertEqual(on_run(EVENT, "matches", 0, text), [0, 0], text)

    def test_a_part_that_does_not_fit(self):
        parts = [("open", "shut"), ("@door", "@gate"), ("#50", "#51"), ("+7", "+8")]
        # For each part: 0 it is not there, 1 it fits, 2 it doesn't.
        for code in range(81):
            chosen = [code // 3 ** k % 3 for k in range(4)]
            text = "[" + "".join(parts[k][way - 1] for k, way in enumerate(chosen) if way) + "]"
            self.assertEqual(on_run(EVENT, "matches", 0, text), [0, 0 if 2 in chosen else 1], text)

    def test_the_ends_of_ranges_and_the_numbers_beside_them(self):
        for text, first, second in RANGES:
            near = {0, 999, first - 1, first, first + 1, second - 1, second, second + 1}
            for number in sorted(near & set(range(1000))):
                want = [0, 1 if first <= number <= second else 0]
                self.assertEqual(on_run(f"a@b#{number}+500", "matches", 0, f"[#{text}]"), want, (text, number))
                self.assertEqual(on_run(f"a@b#500+{number}", "matches", 0, f"[+{text}]"), want, (text, number))

    def test_each_event_of_a_run(self):
        run = "open@door#5+3 shut@door#0+12 open@gate#5+0"
        for text, want in [("[open]", [1, 0, 1]), ("[@door]", [1, 1, 0]), ("[#5]", [1, 0, 1]), ("[+..3]", [1, 0, 1]),
                           ("[+12]", [0, 1, 0]), ("[]", [1, 1, 1]), ("[shut@gate]", [0, 0, 0])]:
            found = asked(call("load", run), *[call("matches", i, text) for i in range(3)])
            self.assertEqual(found[1:], [[0, one] for one in want], text)

    def test_the_gap_is_not_the_time(self):
        run = "a@b#0+10 a@b#0+5"
        self.assertEqual(on_run(run, "matches", 1, "[+5]"), [0, 1])
        self.assertEqual(on_run(run, "matches", 1, "[+15]"), [0, 0])

    def test_no_patterns_text(self):
        for text in NO_PATTERNS:
            self.assertEqual(on_run(EVENT, "matches", 0, text), [-5], text)

    def test_every_byte(self):
        for byte in range(256):
            letter = 97 <= byte <= 122
            self.assertEqual(on_run("a@b#1+1", "matches", 0, [91, byte, 93]), [0, int(byte == 97)] if letter else [-5], byte)
            digit = 48 <= byte <= 57
            self.assertEqual(on_run("a@b#1+1", "matches", 0, [91, 35, byte, 93]), [0, int(byte == 49)] if digit else [-5],
                             byte)
            self.assertEqual(on_run("a@b#1+1", "matches", 0, [byte, 97, 93]), [0, 1] if byte == 91 else [-5], byte)
            self.assertEqual(on_run("a@b#1+1", "matches", 0, [91, 97, byte]), [0, 1] if byte == 93 else [-5], byte)

    def test_the_longest_texts(self):
        for text in ("[" * 4000, "[" + "a" * 3998 + "]", " " * 4000, "[#" + "1" * 3997 + "]", "[a]" + " " * 3997):
            self.assertEqual(on_run(EVENT, "matches", 0, text), [-5])

    def test_there_is_no_event_i(self):
        for many in (0, 1, 2, 40):
            for i in (-1, -2, many, many + 1, LARGE, -LARGE):
                self.assertEqual(on_run(run_of(many), "matches", i, "[]"), [-2], i)
                for text in ("", "true", "[", "[#..]", "[#2..1]"):
                    self.assertEqual(on_run(run_of(many), "matches", i, text), [-2], i)
        self.assertEqual(one_answer("matches", 0, "[]"), [-2])

    def test_the_run_is_as_it_was(self):
        found = asked(call("load", EVENT), call("matches", 1, "[]"), call("matches", 0, "x"), call("matches", 0, "[]"),
                      call("text"))
        self.assertEqual(found, [[0], [-2], [-5], [0, 1], text_answer(EVENT)])


if __name__ == "__main__":
    unittest.main()
