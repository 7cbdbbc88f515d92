"""read: promise 7, and the faults of a wish's text."""

import unittest

from runwishes.patterns import read_pattern
from tests.helper import asked, call, one_answer, row, text_answer

PREFIXES = ("!", "next ", "ever ", "always ", "within 3 ")


def read(wish):
    return one_answer("read", wish)


class Counts(unittest.TestCase):
    def test_the_example(self):
        self.assertEqual(read("[open#..5] & ![shut]"), [0, 4, 2])

    def test_nodes_and_patterns(self):
        for wish, nodes, patterns in [
            ("true", 1, 0), ("false", 1, 0), ("[]", 1, 1), ("[a]", 1, 1),
            ("!true", 2, 0), ("next true", 2, 0), ("ever true", 2, 0), ("always true", 2, 0), ("within 1 true", 2, 0),
            ("true & false", 3, 0), ("true | false", 3, 0), ("true -> false", 3, 0),
            ("true until false", 3, 0), ("true unless false", 3, 0),
            ("atleast 1 [a]", 1, 1), ("atmost 0 [a]", 1, 1), ("atleast 9 []", 1, 1), ("atmost 9 []", 1, 1),
            ("((((true))))", 1, 0), ("[a] & [a]", 3, 1), ("[a] & atleast 2 [a]", 3, 1),
            ("atmost 2 [b] | atleast 2 [a] | [b]", 5, 2), ("!(true & [a]) -> next within 9 ([a] | [b])", 10, 2),
        ]:
            self.assertEqual(read(wish), [0, nodes, patterns], wish)

    def test_blanks_may_be_missing_or_many(self):
        for wish in ("within3true", "within3 true", "  within  3  true  ", "within 3(true)"):
            self.assertEqual(read(wish), [0, 2, 0], wish)
        self.assertEqual(read("[a]until[b]&atleast2[c]->!next(true)"), [0, 9, 3])

    def test_the_run_is_as_it_was(self):
        found = asked(call("load", "a@b#1+1"), call("read", "[a]"), call("read", "nonsense"), call("text"))
        self.assertEqual(found, [[0], [0, 1, 1], [3, 0], text_answer("a@b#1+1")])


class Length(unittest.TestCase):
    def test_a_thousand_bytes_and_one_more(self):
        self.assertEqual(read("true" + " " * 996), [0, 1, 0])
        self.assertEqual(read("true" + " " * 997), [1, 0])
        self.assertEqual(read(" " * 1000), [3, 1000])
        self.assertEqual(read(" " * 1001), [1, 0])
        self.assertEqual(read("?" * 1000), [2, 0])
        self.assertEqual(read("?" * 1001), [1, 0])
        self.assertEqual(read("(" * 4000), [1, 0])


class Tokens(unittest.TestCase):
    def test_the_examples(self):
        self.assertEqual(read("[a"), [2, 0])
        self.assertEqual(read("within 10 true"), [2, 7])

    def test_every_byte_behind_a_wish(self):
        wants = {32: [0, 1, 0], 38: [3, 6], 124: [3, 6]}
        for byte in row("!()abcdefghijklmnopqrstuvwxyz0123456789"):
            wants[byte] = [3, 5]
        for byte in range(256):
            self.assertEqual(read(row("true ") + [byte]), wants.get(byte, [2, 5]), byte)

    def test_half_an_arrow(self):
        for wish in ("true - true", "true -", "true - > true", "true -- true"):
            self.assertEqual(read(wish), [2, 5], wish)
        self.assertEqual(read("true > true"), [2, 5])
        self.assertEqual(read("true ->> true"), [2, 7])
        self.assertEqual(read("true->true"), [0, 3, 0])

    def test_two_digits_in_a_row(self):
        self.assertEqual(read("atleast 10 [a]"), [2, 8])
        self.assertEqual(read("atmost 00 [a]"), [2, 7])
        self.assertEqual(read("true 123"), [2, 5])
        self.assertEqual(read("true 1 2"), [3, 5])

    def test_ahead_of_the_rules_and_levels(self):
        self.assertEqual(read("& & & ?"), [2, 6])
        self.assertEqual(read("(" * 30 + "?"), [2, 30])
        self.assertEqual(read("true true #"), [2, 10])

    def test_the_first_one_from_the_left(self):
        self.assertEqual(read("true ? # 12"), [2, 5])
        self.assertEqual(read("[a] 12 ?"), [2, 4])

    def test_texts_that_are_no_pattern(self):
        for text in ("[", "[a", "[ ]", "[a ]", "[ a]", "[a b]", "[A]", "[1]", "[@]", "[a@]", "[@@]", "[@a@b]",
                     "[#]", "[+]", "[a#]", "[a+]", "[##1]", "[++1]", "[#1#1]", "[+1+1]", "[+1#1]", "[#1@a]", "[+1@a]",
                     "[abcdefghi]", "[@abcdefghi]", "[a@b@c]", "[[]", "[[a]]", "[(a)]", "[a-b]", "[5]", "[..5]"):
            self.assertEqual(read("true & " + text), [2, 7], text)

    def test_texts_that_are_no_range(self):
        for text in ("..", ".", "...", "....", "1.", ".1", "1.2", "1...2", "1..2..3", "..1..", "1000", "1..1000",
                     "1000..", "..1000", "00", "01", "01..2", "1..02", "..01", "01..", "2..1", "999..0", "1..0",
                     "a", "1..a", "a..1", "-1", "1 ..2", "1.. 2", "1-2", "+1", "0999", "..00"):
            self.assertEqual(read(f"true & [#{text}]"), [2, 7], text)
            self.assertEqual(read(f"true & [+{text}]"), [2, 7], text)
            self.assertEqual(read(f"true & [ab@cd#{text}+5]"), [2, 7], text)

    def test_texts_of_patterns(self):
        for text in ("[]", "[a]", "[abcdefgh]", "[@a]", "[@abcdefgh]", "[#0]", "[#999]", "[+0]", "[+999]",
                     "[a@b#1+2]", "[a#1]", "[a+1]", "[@b#1]", "[@b+1]", "[#1+1]", "[#1..2]", "[#1..]", "[#..1]",
                     "[#0..999]", "[#0..]", "[#..999]", "[#7..7]", "[+0..0]", "[+..0]", "[+999..]", "[#0..5+5..]",
                     "[true]", "[until]"):
            self.assertEqual(read(text), [0, 1, 1], text)

    def test_a_patterns_text_has_both_brackets(self):
        for text in ("", "[", "]", "a", "a]", "[a", "][", "(a)", " [a]", "[a] "):
            self.assertIsNone(read_pattern(text), text)
        self.assertIsNotNone(read_pattern("[a]"))

    def test_a_pattern_goes_up_to_the_next_bracket(self):
        self.assertEqual(read("[a] ]"), [2, 4])
        self.assertEqual(read("[a]]"), [2, 3])
        self.assertEqual(read("[a & [b]"), [2, 0])
        self.assertEqual(read("[a][b]"), [3, 3])


class Rules(unittest.TestCase):
    def test_the_example(self):
        self.assertEqual(read("always"), [3, 6])

    def test_at_the_end(self):
        for wish in ("", "  ", "!", "next", "ever ", "within", "within 3", "within 3  ", "atleast", "atleast 3",
                     "atmost", "atmost 0 ", "(", "(true", "((true)", "true &", "true |", "true ->", "true until",
                     "true unless ", "(true -> (true)"):
            self.assertEqual(read(wish), [3, len(wish)], wish)

    def test_brackets_closed_too_often(self):
        for wish, place in [(")", 0), ("true)", 4), ("(true))", 6), ("()", 1), ("(true) )", 7), ("(true & )", 8)]:
            self.assertEqual(read(wish), [3, place], wish)

    def test_tokens_that_cant_follow(self):
        for wish, place in [
            ("& true", 0), ("| true", 0), ("-> true", 0), ("until true", 0), ("unless true", 0), ("5", 0), ("5 true", 0),
            ("true true", 5), ("true [a]", 5), ("[a] (true)", 4), ("true !true", 5), ("true next true", 5),
            ("true & & true", 7), ("true until until true", 11), ("true -> -> true", 8), ("! & true", 2),
            ("(true) true", 7), ("(true false)", 6), ("true within 3 true", 5), ("atleast 2 [a] [b]", 14),
            ("nonsense", 0), ("true and true", 5), ("truefalse", 0), ("alwaystrue", 0), ("a", 0), ("true untiltrue", 5),
            ("pattern", 0), ("end", 0),
        ]:
            self.assertEqual(read(wish), [3, place], wish)

    def test_digits(self):
        self.assertEqual(read("within 0 true"), [3, 7])
        self.assertEqual(read("atleast 0 [a]"), [3, 8])
        self.assertEqual(read("atmost 0 [a]"), [0, 1, 1])
        for digit in range(1, 10):
            self.assertEqual(read(f"within {digit} true"), [0, 2, 0])
            self.assertEqual(read(f"atleast {digit} [a]"), [0, 1, 1])
            self.assertEqual(read(f"atmost {digit} [a]"), [0, 1, 1])

    def test_no_digit_or_no_pattern(self):
        for wish, place in [("within true", 7), ("within [a]", 7), ("within !true", 7), ("atleast [a]", 8),
                            ("atmost [a]", 7), ("atleast 2 true", 10), ("atmost 2 (true)", 9), ("atmost 2 ([a])", 9),
                            ("atleast 2 3", 10), ("within 2 3", 9), ("next 2 true", 5), ("atleast 2 ![a]", 10)]:
            self.assertEqual(read(wish), [3, place], wish)


class Levels(unittest.TestCase):
    def test_brackets(self):
        self.assertEqual(read("(" * 20 + "true" + ")" * 20), [0, 1, 0])
        self.assertEqual(read("(" * 21 + "true" + ")" * 21), [4, 20])
        self.assertEqual(read("(" * 900), [4, 20])

    def test_prefixes(self):
        for prefix in PREFIXES:
            self.assertEqual(read(prefix * 20 + "true"), [0, 21, 0], prefix)
            self.assertEqual(read(prefix * 21 + "true"), [4, 20 * len(prefix)], prefix)
            self.assertEqual(read(prefix * 20 + "(true)"), [4, 20 * len(prefix)], prefix)

    def test_what_stands_behind(self):
        for word in (" -> ", " until ", " unless "):
            long = word.join(["true"] * 21)
            # 21 times true and 20 words are more than 30 nodes, but no level too many.
            self.assertEqual(read(long), [5, 0], word)
            self.assertEqual(read(long + word + "true"), [4, len(long) + 1], word)

    def test_twenty_of_a_sort_and_few_nodes(self):
        brackets = 6
        for word in ("->", "until", "unless"):
            wish = f"true {word} " * 14 + "(" * brackets + "true" + ")" * brackets
            self.assertEqual(read(wish), [0, 29, 0], word)
            deeper = f"true {word} " * 14 + "(" * 7 + "true" + ")" * 7
            self.assertEqual(read(deeper), [4, deeper.index("(") + 6], word)

    def test_and_and_or_open_none(self):
        self.assertEqual(read("true & " * 100 + "true"), [5, 0])
        self.assertEqual(read("true | " * 100 + "true"), [5, 0])
        self.assertEqual(read("[]&" * 332 + "[]"), [5, 0])

    def test_levels_end(self):
        self.assertEqual(read("!" * 20 + "true -> true"), [0, 23, 0])
        self.assertEqual(read("!" * 20 + "true & !!!!!true"), [0, 28, 0])
        self.assertEqual(read("(" * 20 + "true" + ")" * 20 + " & " + "(" * 20 + "true" + ")" * 20), [0, 3, 0])
        self.assertEqual(read("(" * 20 + "true" + ")" * 20 + " until " + "(" * 19 + "true" + ")" * 19), [0, 3, 0])
        self.assertEqual(read("true until true & " * 4 + "(" * 20 + "true" + ")" * 20), [0, 17, 0])
        self.assertEqual(read("true until true -> " + "(" * 19 + "true" + ")" * 19), [0, 5, 0])

    def test_levels_that_go_on(self):
        self.assertEqual(read("true -> true & " + "(" * 20 + "true" + ")" * 20), [4, 15 + 19])
        self.assertEqual(read("true -> true | " + "(" * 19 + "true" + ")" * 19), [0, 5, 0])
        self.assertEqual(read("true until " + "!" * 20 + "true"), [4, 11 + 19])
        self.assertEqual(read("!(" * 10 + "true" + ")" * 10), [0, 11, 0])
        self.assertEqual(read("!(" * 10 + "!true" + ")" * 10), [4, 20])
        self.assertEqual(read("(" * 20 + "true -> true" + ")" * 20), [4, 25])
        self.assertEqual(read("(" * 20 + "true until true" + ")" * 20), [4, 25])
        self.assertEqual(read("(" * 20 + "true & true" + ")" * 20), [0, 3, 0])

    def test_rule_or_level_whichever_comes_first(self):
        self.assertEqual(read("true true" + "(" * 21), [3, 5])
        self.assertEqual(read("(" * 21 + ")"), [4, 20])
        self.assertEqual(read("(" * 20 + ")"), [3, 20])
        self.assertEqual(read("!" * 20 + "within 0 true"), [4, 20])
        self.assertEqual(read("!" * 19 + "within 0 true"), [3, 26])
        self.assertEqual(read("(" * 20 + "true ("), [3, 25])
        self.assertEqual(read("(" * 20 + "true !"), [3, 25])

    def test_atoms_open_none(self):
        self.assertEqual(read("(" * 20 + "atleast 2 [a]" + ")" * 20), [0, 1, 1])
        self.assertEqual(read("!" * 20 + "atmost 2 [a]"), [0, 21, 1])


class NodesAndPatterns(unittest.TestCase):
    def test_thirty_nodes_and_one_more(self):
        self.assertEqual(read("true & " * 14 + "!true"), [0, 30, 0])
        self.assertEqual(read("true & " * 15 + "true"), [5, 0])
        self.assertEqual(read("atleast 2 [a] | " * 14 + "!true"), [0, 30, 1])
        self.assertEqual(read("atleast 2 [a] | " * 15 + "true"), [5, 0])
        self.assertEqual(read("(true -> !!true) & " * 5 + "(true)"), [5, 0])
        self.assertEqual(read("(true -> !!true) & " * 4 + "!true"), [0, 26, 0])

    def test_five_patterns_and_one_more(self):
        five = "[a] & [b] & [c] & [d] & [e]"
        self.assertEqual(read(five), [0, 9, 5])
        self.assertEqual(read(five + " & [a]"), [0, 11, 5])
        self.assertEqual(read(five + " & [f]"), [6, 0])
        self.assertEqual(read(five + " & atleast 2 [e]"), [0, 11, 5])
        self.assertEqual(read(five + " & atleast 2 [f]"), [6, 0])
        self.assertEqual(read(five + " & atmost 2 [f]"), [6, 0])
        self.assertEqual(read("!([f] until (" + five + "))"), [6, 0])

    def test_nodes_are_looked_at_first(self):
        self.assertEqual(read("[a]&[b]&[c]&[d]&[e]&[f]" + "&true" * 10), [5, 0])
        self.assertEqual(read("[a]&[b]&[c]&[d]&[e]&[f]" + "&true" * 9), [6, 0])

    def test_the_same_patterns_told_otherwise(self):
        for one, other in [("[#7]", "[#7..7]"), ("[#0..]", "[#0..999]"), ("[#..999]", "[#0..]"), ("[+..5]", "[+0..5]"),
                           ("[+5..]", "[+5..999]"), ("[#0]", "[#..0]"), ("[#999]", "[#999..]"),
                           ("[a@b#1..1+..7]", "[a@b#1+0..7]")]:
            self.assertEqual(read(f"{one} & {other}"), [0, 3, 1], one)
            self.assertEqual(read(f"[a] & [b] & [c] & [d] & {one} & {other}"), [0, 11, 5], one)

    def test_different_patterns(self):
        for one, other in [("[a]", "[@a]"), ("[#1]", "[+1]"), ("[]", "[#0..]"), ("[]", "[+0..]"), ("[#0..]", "[+0..]"),
                           ("[#1..2]", "[#1..3]"), ("[#1..3]", "[#2..3]"), ("[+1]", "[+2]"), ("[a@b]", "[a@c]"),
                           ("[a@b#1+1]", "[a@b#1+2]"), ("[a]", "[]"), ("[a]", "[aa]")]:
            self.assertEqual(read(f"{one} & {other}"), [0, 3, 2], one)


if __name__ == "__main__":
    unittest.main()
