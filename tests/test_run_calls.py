"""load, add, put, drop, text, event: promises 1 to 6."""

import unittest

from tests.helper import asked, call, one_answer, row, run_of, text_answer

TEXT = call("text")
LARGE = 10 ** 18

BAD_EVENTS = [
    "", "a", "@", "a@b", "a@b#1", "a@b+1", "a@b#1+", "a@b#+1", "a@#1+1", "@b#1+1", "a#1+1", "a@b1+1",
    "a@b#1+1+1", "a@b#1#1+1", "a@b@c#1+1", "a@b+1#1", "a#1@b+1", "a@b#-1+1", "a@b#1+-1", "a@b#1..2+1",
    "A@b#1+1", "a@B#1+1", "a1@b#1+1", "a@b2#1+1", "a_@b#1+1", "a@b#x+1", "a@b#1+x", "[a@b#1+1]",
    "abcdefghi@b#1+1", "a@abcdefghi#1+1",
    "a@b#1000+1", "a@b#1+1000", "a@b#00+1", "a@b#1+00", "a@b#01+1", "a@b#1+01", "a@b#007+1", "a@b#1+0999",
    "a@b#0001+1", "a@b#1+9999999999999999999999",
    " a@b#1+1", "a@b#1+1 ", "a @b#1+1", "a@ b#1+1", "a@b# 1+1", "a@b#1 +1", "a@b#1+ 1", "a@b#1+1 a@b#1+1", " ",
]

GOOD_EVENTS = [
    "a@b#1+1", "abcdefgh@z#0+0", "z@abcdefgh#999+999", "a@a#10+100", "azazazaz@zazazaza#99+9", "open@door#5+3",
]


class Load(unittest.TestCase):
    def test_a_run_is_held_from_then_on(self):
        self.assertEqual(asked(call("load", "open@door#5+3 shut@door#0+12"), TEXT),
                         [[0], text_answer("open@door#5+3 shut@door#0+12")])

    def test_a_second_run_takes_the_first_ones_place(self):
        self.assertEqual(asked(call("load", run_of(3)), call("load", "x@y#1+2"), TEXT),
                         [[0], [0], text_answer("x@y#1+2")])

    def test_no_bytes_and_blanks_alone(self):
        for text in ("", " ", "     "):
            self.assertEqual(asked(call("load", run_of(2)), call("load", text), TEXT), [[0], [0], [0]])

    def test_blanks_ahead_behind_and_several_between(self):
        for text in ("  a@b#1+1 c@d#2+2", "a@b#1+1 c@d#2+2   ", "a@b#1+1    c@d#2+2", "  a@b#1+1  c@d#2+2 "):
            self.assertEqual(asked(call("load", text), TEXT), [[0], text_answer("a@b#1+1 c@d#2+2")])

    def test_forty_events_and_forty_one(self):
        forty = run_of(40)
        self.assertEqual(asked(call("load", forty), TEXT), [[0], text_answer(forty)])
        self.assertEqual(one_answer("load", forty + "   "), [0])
        self.assertEqual(one_answer("load", run_of(41)), [2, len(forty) + 1])
        self.assertEqual(one_answer("load", "  " + forty + "   a@b#1+1 nonsense"), [2, len(forty) + 5])

    def test_a_forty_first_token_that_is_no_events_text(self):
        forty = run_of(40)
        self.assertEqual(one_answer("load", forty + " nonsense a@b#1+1"), [1, len(forty) + 1])

    def test_the_first_token_that_is_no_event(self):
        self.assertEqual(one_answer("load", "nonsense"), [1, 0])
        self.assertEqual(one_answer("load", "   nonsense"), [1, 3])
        self.assertEqual(one_answer("load", "a@b#1+1 x y"), [1, 8])
        self.assertEqual(one_answer("load", "a@b#1+1   a@b#1+01 y"), [1, 10])
        self.assertEqual(one_answer("load", "x " + run_of(41)), [1, 0])

    def test_each_sort_of_bad_event(self):
        for text in BAD_EVENTS:
            if " " not in text and text != "":
                self.assertEqual(one_answer("load", "a@b#1+1  " + text + " a@b#1+1"), [1, 9], text)

    def test_other_bytes_are_no_blanks(self):
        for byte in range(256):
            if byte != 32 and not 48 <= byte <= 57:
                self.assertEqual(one_answer("load", row("a@b#1+1 a@b#1+1") + [byte] + row("a@b#1+1")), [1, 8], byte)

    def test_after_a_fault_the_run_is_as_it_was(self):
        for text in ("c@d#1+1 x", run_of(41), "?"):
            found = asked(call("load", "x@y#1+2 z@z#0+0"), call("load", text), TEXT)
            self.assertEqual(found[2], text_answer("x@y#1+2 z@z#0+0"))

    def test_the_longest_text(self):
        self.assertEqual(asked(call("load", " " * 3993 + "a@b#1+1"), TEXT), [[0], text_answer("a@b#1+1")])
        self.assertEqual(one_answer("load", "x" * 4000), [1, 0])
        self.assertEqual(one_answer("load", " " * 3999 + "x"), [1, 3999])


class Add(unittest.TestCase):
    def test_how_many_there_are_then(self):
        found = asked(call("add", "a@b#1+1"), call("add", "c@d#2+2"), call("add", "a@b#1+1"), TEXT)
        self.assertEqual(found, [[1], [2], [3], text_answer("a@b#1+1 c@d#2+2 a@b#1+1")])

    def test_up_to_forty(self):
        found = asked(*[call("add", f"a@b#{i}+1") for i in range(40)], TEXT)
        self.assertEqual(found, [[i + 1] for i in range(40)] + [text_answer(run_of(40))])

    def test_a_full_run(self):
        found = asked(call("load", run_of(40)), call("add", "x@y#1+1"), call("add", "nonsense"), TEXT)
        self.assertEqual(found, [[0], [-3], [-1], text_answer(run_of(40))])

    def test_behind_a_loaded_run(self):
        self.assertEqual(asked(call("load", run_of(39)), call("add", "x@y#1+1"), call("add", "x@y#1+1"))[1:],
                         [[40], [-3]])

    def test_good_events(self):
        for text in GOOD_EVENTS:
            self.assertEqual(asked(call("add", text), TEXT), [[1], text_answer(text)])

    def test_bad_events_leave_the_run_as_it_was(self):
        for text in BAD_EVENTS:
            self.assertEqual(asked(call("add", "x@y#1+2"), call("add", text), TEXT),
                             [[1], [-1], text_answer("x@y#1+2")], text)

    def test_every_byte_in_a_name(self):
        for byte in range(256):
            want = [1] if 97 <= byte <= 122 else [-1]
            self.assertEqual(one_answer("add", [byte] + row("@b#1+1")), want, byte)
            self.assertEqual(one_answer("add", row("a@b") + [byte] + row("#1+1")), want, byte)

    def test_every_byte_in_a_number(self):
        for byte in range(256):
            want = [1] if 48 <= byte <= 57 else [-1]
            self.assertEqual(one_answer("add", row("a@b#") + [byte] + row("+1")), want, byte)
            self.assertEqual(one_answer("add", row("a@b#1+1") + [byte]), want, byte)

    def test_a_very_long_text(self):
        self.assertEqual(one_answer("add", "a" * 4000), [-1])
        self.assertEqual(one_answer("add", "a@b#1+" + "1" * 3994), [-1])


class Put(unittest.TestCase):
    def test_event_i_is_this_one(self):
        for i, want in enumerate(("x@y#9+9 c@d#2+2 e@f#3+3", "a@b#1+1 x@y#9+9 e@f#3+3", "a@b#1+1 c@d#2+2 x@y#9+9")):
            found = asked(call("load", "a@b#1+1 c@d#2+2 e@f#3+3"), call("put", i, "x@y#9+9"), TEXT)
            self.assertEqual(found, [[0], [0], text_answer(want)])

    def test_there_is_no_event_i(self):
        for i in (-1, -2, -3, 2, 3, 40, LARGE, -LARGE):
            found = asked(call("load", "a@b#1+1 c@d#2+2"), call("put", i, "x@y#9+9"), call("put", i, "x"), TEXT)
            self.assertEqual(found, [[0], [-2], [-2], text_answer("a@b#1+1 c@d#2+2")], i)

    def test_in_a_run_without_events(self):
        for i in (0, -1, 1):
            self.assertEqual(asked(call("put", i, "x@y#9+9"), TEXT), [[-2], [0]])

    def test_no_events_text(self):
        for text in BAD_EVENTS:
            found = asked(call("load", "a@b#1+1 c@d#2+2"), call("put", 1, text), TEXT)
            self.assertEqual(found, [[0], [-1], text_answer("a@b#1+1 c@d#2+2")], text)

    def test_in_a_full_run(self):
        found = asked(call("load", run_of(40)), call("put", 39, "x@y#9+9"), call("put", 40, "x@y#9+9"), TEXT)
        self.assertEqual(found, [[0], [0], [-2], text_answer(run_of(39) + " x@y#9+9")])


class Drop(unittest.TestCase):
    def test_down_to_none(self):
        found = asked(call("load", "a@b#1+1 c@d#2+2"), call("drop"), TEXT, call("drop"), TEXT, call("drop"),
                      call("drop"), TEXT)
        self.assertEqual(found, [[0], [1], text_answer("a@b#1+1"), [0], [0], [-4], [-4], [0]])

    def test_on_a_new_object(self):
        self.assertEqual(asked(call("drop"), call("add", "a@b#1+1"), call("drop"), call("drop")),
                         [[-4], [1], [0], [-4]])

    def test_makes_room(self):
        self.assertEqual(asked(call("load", run_of(40)), call("drop"), call("add", "x@y#1+1"), TEXT),
                         [[0], [39], [40], text_answer(run_of(39) + " x@y#1+1")])


class Text(unittest.TestCase):
    def test_without_events(self):
        self.assertEqual(asked(TEXT, TEXT), [[0], [0]])

    def test_one_and_several(self):
        self.assertEqual(asked(call("add", "open@door#0+999"), TEXT, call("add", "shut@door#10+0"), TEXT)[1::2],
                         [text_answer("open@door#0+999"), text_answer("open@door#0+999 shut@door#10+0")])

    def test_the_longest(self):
        text = " ".join(["abcdefgh@ijklmnop#999+999"] * 40)
        self.assertEqual(asked(call("load", text), TEXT), [[0], text_answer(text)])


class Event(unittest.TestCase):
    def test_the_example(self):
        found = asked(call("load", "open@door#5+3 shut@door#0+12"), call("event", 0), call("event", 1))
        self.assertEqual(found[1], [0, 3, 3, 5, 4] + row("open") + [4] + row("door"))
        self.assertEqual(found[2], [0, 15, 12, 0, 4, 115, 104, 117, 116, 4, 100, 111, 111, 114])

    def test_time_is_the_sum_of_the_gaps(self):
        gaps = [7, 0, 999, 1, 0, 20]
        text = " ".join(f"a@bcd#{100 + i}+{gap}" for i, gap in enumerate(gaps))
        found = asked(call("load", text), *[call("event", i) for i in range(6)])
        for i, gap in enumerate(gaps):
            self.assertEqual(found[i + 1], [0, sum(gaps[:i + 1]), gap, 100 + i, 1, 97, 3, 98, 99, 100])

    def test_time_after_a_change(self):
        found = asked(call("load", "a@b#0+1 a@b#0+2 a@b#0+4"), call("put", 0, "a@b#0+100"), call("event", 2),
                      call("event", 1))
        self.assertEqual([answer[1] for answer in found[2:]], [106, 102])

    def test_the_latest_time(self):
        found = asked(call("load", " ".join(["a@b#0+999"] * 40)), call("event", 39))
        self.assertEqual(found[1][1], 40 * 999)

    def test_there_is_no_event_i(self):
        for i in (-1, -2, 2, 3, 40, LARGE, -LARGE):
            self.assertEqual(asked(call("load", "a@b#1+1 c@d#2+2"), call("event", i))[1], [-2], i)
        self.assertEqual(one_answer("event", 0), [-2])
        self.assertEqual(one_answer("event", -1), [-2])


if __name__ == "__main__":
    unittest.main()
