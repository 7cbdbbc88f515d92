"""holds and places: promises 9 and 10, what a wish means at every place."""

import unittest

from tests.helper import FAULTS, asked, call, on_run, one_answer, run_of, text_answer

LARGE = 10 ** 18

DOOR = "open@door#5+3 shut@door#0+12"
# Events a, a, b, c: the places are 0 to 4.
AABC = "a@x#0+0 a@x#1+0 b@x#2+0 c@x#3+0"
EMPTY = ""

# Wishes, and the places of AABC at which they hold.
AT_AABC = [
    ("true", [0, 1, 2, 3, 4]), ("false", []), ("[]", [0, 1, 2, 3]), ("[a]", [0, 1]), ("[c]", [3]), ("[d]", []),
    ("!true", []), ("!false", [0, 1, 2, 3, 4]), ("![]", [4]), ("![a]", [2, 3, 4]), ("!![a]", [0, 1]),
    ("[a] & [#1]", [1]), ("[a] & [b]", []), ("true & ![a]", [2, 3, 4]),
    ("[a] | [c]", [0, 1, 3]), ("false | false", []), ("![] | [b]", [2, 4]),
    ("[a] -> [#1]", [1, 2, 3, 4]), ("[] -> [a]", [0, 1, 4]), ("true -> false", []), ("false -> false", [0, 1, 2, 3, 4]),
    ("next true", [0, 1, 2, 3]), ("next false", []), ("next [a]", [0]), ("next [c]", [2]), ("next ![]", [3]),
    ("next next true", [0, 1, 2]), ("next next next next true", [0]), ("next next next next next true", []),
    ("!next true", [4]), ("next [b]", [1]), ("next always false", [3]), ("next atmost 0 []", [3]),
    ("ever true", [0, 1, 2, 3]), ("ever false", []), ("ever [a]", [0, 1]), ("ever [c]", [0, 1, 2, 3]),
    ("ever ![]", []), ("ever next ![]", [0, 1, 2, 3]), ("next ever true", [0, 1, 2]),
    ("always true", [0, 1, 2, 3, 4]), ("always false", [4]), ("always [a]", [4]), ("always [c]", [3, 4]),
    ("always []", [0, 1, 2, 3, 4]), ("always ![a]", [2, 3, 4]), ("always next true", [0, 1, 2, 3, 4]),
    ("[a] until [b]", [0, 1, 2]), ("[a] until [c]", [3]), ("[a] until [d]", []), ("true until [c]", [0, 1, 2, 3]),
    ("false until [a]", [0, 1]), ("[] until ![]", []), ("![c] until [c]", [0, 1, 2, 3]), ("true until true", [0, 1, 2, 3]),
    ("[b] until [c]", [2, 3]), ("([a] | [b]) until [#3]", [0, 1, 2, 3]),
    ("[a] unless [b]", [0, 1, 2, 4]), ("[a] unless [c]", [3, 4]), ("[a] unless [d]", [4]), ("[] unless false", [0, 1, 2, 3, 4]),
    ("[#2..] unless false", [2, 3, 4]), ("false unless [a]", [0, 1, 4]), ("false unless false", [4]),
    ("[b] unless [d]", [4]), ("[c] unless [d]", [3, 4]), ("[b] unless [c]", [2, 3, 4]),
    ("within 1 [b]", [2]), ("within 2 [b]", [1, 2]), ("within 3 [b]", [0, 1, 2]), ("within 9 [b]", [0, 1, 2]),
    ("within 1 true", [0, 1, 2, 3]), ("within 9 true", [0, 1, 2, 3]), ("within 9 ![]", []), ("within 1 ![]", []),
    ("within 2 [c]", [2, 3]), ("within 4 [c]", [0, 1, 2, 3]), ("within 3 next ![]", [1, 2, 3]),
    ("atleast 1 [a]", [0, 1]), ("atleast 2 [a]", [0]), ("atleast 3 [a]", []), ("atleast 4 []", [0]), ("atleast 5 []", []),
    ("atleast 1 []", [0, 1, 2, 3]), ("atleast 9 []", []), ("atleast 1 [c]", [0, 1, 2, 3]),
    ("atmost 0 [a]", [2, 3, 4]), ("atmost 1 [a]", [1, 2, 3, 4]), ("atmost 2 [a]", [0, 1, 2, 3, 4]), ("atmost 0 []", [4]),
    ("atmost 3 []", [1, 2, 3, 4]), ("atmost 9 []", [0, 1, 2, 3, 4]), ("atmost 0 [d]", [0, 1, 2, 3, 4]),
]

# Wishes, and whether they hold at the one place of the run without events.
WITHOUT_EVENTS = [
    ("true", 1), ("false", 0), ("[]", 0), ("[a]", 0), ("!true", 0), ("![]", 1), ("true & true", 1), ("true & []", 0),
    ("[] | true", 1), ("[] | false", 0), ("[] -> false", 1), ("true -> false", 0), ("next true", 0), ("!next true", 1),
    ("ever true", 0), ("always false", 1), ("true until true", 0), ("false unless false", 1), ("true unless true", 1),
    ("within 1 true", 0), ("within 9 true", 0), ("atleast 1 []", 0), ("atleast 9 []", 0), ("atmost 0 []", 1),
    ("atmost 9 []", 1),
]


class Places(unittest.TestCase):
    def test_the_examples(self):
        for wish, want in [
            ("[open] -> next [shut]", [0, 0, 1, 2]), ("always ([open] -> next [shut])", [0, 0, 1, 2]),
            ("ever [+10..]", [0, 0, 1]), ("[open] until [shut]", [0, 0, 1]), ("atmost 1 [@door]", [0, 1, 2]),
            ("next true", [0, 0, 1]),
        ]:
            self.assertEqual(on_run(DOOR, "places", wish), want, wish)

    def test_each_sort_of_wish(self):
        for wish, want in AT_AABC:
            self.assertEqual(on_run(AABC, "places", wish), [0] + want, wish)

    def test_without_events(self):
        for wish, want in WITHOUT_EVENTS:
            self.assertEqual(one_answer("places", wish), [0, 0] if want else [0], wish)

    def test_none_and_all(self):
        for many in (0, 1, 2, 39, 40):
            self.assertEqual(on_run(run_of(many), "places", "false"), [0])
            self.assertEqual(on_run(run_of(many), "places", "true"), [0] + list(range(many + 1)))

    def test_within_goes_as_far_as_it_says(self):
        run = run_of(40)
        for m in range(1, 10):
            self.assertEqual(on_run(run, "places", f"within {m} [#20]"), [0] + list(range(21 - m, 21)), m)
            self.assertEqual(on_run(run, "places", f"within {m} [#39]"), [0] + list(range(40 - m, 40)), m)
            self.assertEqual(on_run(run, "places", f"within {m} [#0]"), [0, 0], m)
            self.assertEqual(on_run(run, "places", f"within {m} ![]"), [0], m)

    def test_how_many_match(self):
        run = run_of(40)
        for m in range(10):
            self.assertEqual(on_run(run, "places", f"atmost {m} []"), [0] + list(range(40 - m, 41)), m)
            first = 10 - m if m < 5 else 0
            self.assertEqual(on_run(run, "places", f"atmost {m} [#5..9]"), [0] + list(range(first, 41)), m)
        for m in range(1, 10):
            self.assertEqual(on_run(run, "places", f"atleast {m} []"), [0] + list(range(41 - m)), m)
            behind = 11 - m if m < 6 else 0
            self.assertEqual(on_run(run, "places", f"atleast {m} [#5..9]"), [0] + list(range(behind)), m)

    def test_until_where_a_fails_ahead_of_b(self):
        run = "a@x#0+0 a@x#1+0 c@x#2+0 a@x#3+0 b@x#4+0 a@x#5+0"
        self.assertEqual(on_run(run, "places", "[a] until [b]"), [0, 3, 4])
        self.assertEqual(on_run(run, "places", "[a] unless [b]"), [0, 3, 4, 5, 6])
        self.assertEqual(on_run(run, "places", "[c] until [b]"), [0, 4])

    def test_until_asks_for_b_ahead_of_the_last_place(self):
        # b alone holds at the place behind all events, and that does not count.
        self.assertEqual(on_run(AABC, "places", "true until ![]"), [0])
        self.assertEqual(on_run(AABC, "places", "true until next ![]"), [0, 0, 1, 2, 3])
        self.assertEqual(on_run(AABC, "places", "[a] unless ![]"), [0, 4])

    def test_twenty_levels_and_thirty_nodes_on_forty_events(self):
        wish = "next " * 20 + "[#25..] & within 3 [#9..18]" + " & true" * 3
        self.assertEqual(one_answer("read", wish), [0, 30, 2])
        # The first part holds at 5 to 19, the second one at 7 to 18.
        self.assertEqual(on_run(run_of(40), "places", wish), [0] + list(range(7, 19)))
        wish = "!" * 19 + "next [#30..] | false | false | !false & [#35]"
        self.assertEqual(one_answer("read", wish), [0, 30, 2])
        self.assertEqual(on_run(run_of(40), "places", wish), [0] + list(range(29)) + [35, 39, 40])

    def test_twenty_levels_in_brackets(self):
        wish = "next (" * 9 + "next [#30..] -> next [#35]" + ")" * 9 + " & true" * 8
        self.assertEqual(one_answer("read", wish), [0, 30, 2])
        # Nine places on, next [#30..] holds at 29 to 38 and next [#35] at 34.
        self.assertEqual(on_run(run_of(40), "places", wish), [0] + list(range(20)) + [25, 30, 31])
        self.assertEqual(one_answer("places", wish.replace("next [#35]", "next ![#35]"))[0], 4)

    def test_places_follow_the_run(self):
        found = asked(call("places", "[a]"), call("add", "a@b#0+0"), call("places", "[a]"), call("add", "a@b#0+0"),
                      call("places", "[a]"), call("put", 0, "c@b#0+0"), call("places", "[a]"), call("drop"),
                      call("places", "[a]"), call("load", "b@b#0+0 b@b#0+0 a@b#0+0"), call("places", "[a]"))
        self.assertEqual(found[::2], [[0], [0, 0], [0, 0, 1], [0, 1], [0], [0, 2]])

    def test_faults(self):
        for wish, fault in FAULTS:
            self.assertEqual(on_run(DOOR, "places", wish), fault, wish)
            self.assertEqual(one_answer("places", wish), fault, wish)


class Holds(unittest.TestCase):
    def test_at_every_place(self):
        for wish, want in AT_AABC:
            calls = [call("holds", i, wish) for i in range(5)]
            found = asked(call("load", AABC), *calls)[1:]
            self.assertEqual(found, [[0, 1] if i in want else [0, 0] for i in range(5)], wish)

    def test_without_events(self):
        for wish, want in WITHOUT_EVENTS:
            self.assertEqual(one_answer("holds", 0, wish), [0, want], wish)
            for i in (-1, 1):
                self.assertEqual(one_answer("holds", i, wish), [-2], wish)

    def test_one_event(self):
        for wish, first, last in [
            ("[]", 1, 0), ("next true", 1, 0), ("next []", 0, 0), ("next ![]", 1, 0), ("ever []", 1, 0),
            ("always []", 1, 1), ("always false", 0, 1), ("true until []", 1, 0), ("false unless false", 0, 1),
            ("within 9 []", 1, 0), ("atleast 1 []", 1, 0), ("atleast 2 []", 0, 0), ("atmost 0 []", 0, 1),
            ("atmost 1 []", 1, 1),
        ]:
            self.assertEqual(on_run("a@b#0+0", "holds", 0, wish), [0, first], wish)
            self.assertEqual(on_run("a@b#0+0", "holds", 1, wish), [0, last], wish)

    def test_places_that_are_none_of_the_runs(self):
        for many in (0, 1, 2, 40):
            for i in (-1, -2, -41, many + 1, many + 2, 1000, LARGE, -LARGE):
                self.assertEqual(on_run(run_of(many), "holds", i, "true"), [-2], i)
            self.assertEqual(on_run(run_of(many), "holds", many, "true"), [0, 1])
            self.assertEqual(on_run(run_of(many), "holds", many, "[]"), [0, 0])

    def test_refused_ahead_of_each_fault(self):
        for wish, fault in FAULTS:
            for i in (-1, 3, LARGE, -LARGE):
                self.assertEqual(on_run(DOOR, "holds", i, wish), [-2], wish)
            for i in (0, 1, 2):
                self.assertEqual(on_run(DOOR, "holds", i, wish), fault, wish)

    def test_the_run_is_as_it_was(self):
        found = asked(call("load", DOOR), call("holds", 9, "true"), call("holds", 0, "["), call("holds", 2, "true"),
                      call("text"))
        self.assertEqual(found, [[0], [-2], [2, 0], [0, 1], text_answer(DOOR)])


if __name__ == "__main__":
    unittest.main()
