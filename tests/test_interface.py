"""answers(calls): how calls are cut, how answers are told, and that nothing is kept."""

import unittest

from runwishes.runs import answers
from tests.helper import FAULTS, asked, call, cut, row, run_of, text_answer, with_length

LARGE = 10 ** 18

WITH_NUMBER = ("holds", "matches", "sign", "alike")
WITHOUT_NUMBER = ("read", "show", "places", "patterns", "signs")

DOOR = "open@door#5+3 shut@door#0+12"
WISH = "[open#..5] & ![shut]"

ALL_FIFTEEN = [
    (call("alike", 0, "true"), [-2]), (call("places", "true"), [0, 0]), (call("load", DOOR), [0]),
    (call("add", "open@gate#9+0"), [3]), (call("put", 2, "open@gate#5+0"), [0]), (call("text"), text_answer(DOOR + " open@gate#5+0")),
    (call("event", 2), [0, 15, 0, 5] + with_length("open") + with_length("gate")), (call("read", WISH), [0, 4, 2]),
    (call("show", "(([open#0..5])&!([shut]))"), text_answer(WISH)), (call("holds", 2, WISH), [0, 1]),
    (call("holds", 3, WISH), [0, 0]), (call("holds", 4, WISH), [-2]), (call("places", WISH), [0, 0, 2]),
    (call("matches", 1, "[+12]"), [0, 1]), (call("matches", 3, "[]"), [-2]), (call("matches", 2, "true"), [-5]),
    (call("patterns", WISH), [0, 2] + with_length("[open#..5]") + with_length("[shut]")),
    (call("signs", "[shut]"), [0, 2, 1] + with_length("shut@a#0+0") + [0] + with_length("a@a#0+0")),
    (call("sign", 1, WISH), [0, 2]), (call("sign", 3, WISH), [-2]), (call("alike", 0, WISH), [0, 0, 2]),
    (call("alike", 1, "[a"), [2, 0]), (call("drop"), [2]), (call("alike", 0, WISH), [0, 0]), (call("sign", 2, WISH), [-2]),
    (call("places", "always"), [3, 6]), (call("text"), text_answer(DOOR)),
]

MANY = [
    call("text"), call("drop"), call("add", "a@b#1+1"), call("put", 0, "c@d#2+2"), call("event", 0),
    call("load", "x@y#0+3 x@y#0+4"), call("text"), call("event", 1), call("read", "[a] & true"),
    call("show", "( [a] )"), call("read", "[a"), call("drop"), call("add", "?"), call("text"),
]

MANY_ANSWERS = [
    [0], [-4], [1], [0], [0, 2, 2, 2, 1, 99, 1, 100], [0], text_answer("x@y#0+3 x@y#0+4"),
    [0, 7, 4, 0, 1, 120, 1, 121], [0, 3, 1], text_answer("[a]"), [2, 0], [1], [-1], text_answer("x@y#0+3"),
]

# A run without events is what all fifteen begin with.
MANY += [call("load", "")] + [told for told, want in ALL_FIFTEEN]
MANY_ANSWERS += [[0]] + [want for told, want in ALL_FIFTEEN]


def joined(calls):
    return [number for one in calls for number in one]


class Interface(unittest.TestCase):
    def test_many_calls_on_one_object(self):
        self.assertEqual(asked(*MANY), MANY_ANSWERS)

    def test_all_fifteen_on_one_object(self):
        self.assertEqual({told[0] for told, want in ALL_FIFTEEN}, set(range(15)))
        found = asked(*[told for told, want in ALL_FIFTEEN])
        self.assertEqual(found, [want for told, want in ALL_FIFTEEN])

    def test_refusals_and_faults_leave_the_run_as_it_was(self):
        refused = [call(name, i, text) for name in WITH_NUMBER for i in (-1, 3, LARGE) for text in ("true", "[]", "[", "")]
        refused += [call("put", 2, "a@b#0+0"), call("put", 0, "x"), call("add", "x"), call("load", "a@b#0+0 x"), call("event", 2)]
        refused += [call("matches", 0, "true"), call("load", run_of(41))]
        for wish, fault in FAULTS:
            refused += [call(name, 0, wish) for name in WITH_NUMBER] + [call(name, wish) for name in WITHOUT_NUMBER]
        for one in refused:
            found = asked(call("load", DOOR), one, call("text"), call("places", "[open]"), one, call("alike", 1, "[shut]"))
            self.assertNotEqual(found[1][0], 0, one)
            self.assertEqual(found[4], found[1], one)
            self.assertEqual(found[2:4] + found[5:], [text_answer(DOOR), [0, 0], [0, 1]], one)

    def test_a_refusal_is_one_number_and_a_fault_two(self):
        for name in WITH_NUMBER:
            self.assertEqual(answers(call(name, 9, "[")), [1, -2])
        for name in WITHOUT_NUMBER:
            self.assertEqual(answers(call(name, "[")), [2, 2, 0])
        self.assertEqual(answers(call("holds", 0, "true [a")), [2, 2, 5])

    def test_questions_change_nothing(self):
        questions = [told for told, want in ALL_FIFTEEN if told[0] > 3]
        for one in questions:
            found = asked(call("load", DOOR), one, one, call("text"))
            self.assertEqual(found[1], found[2])
            self.assertEqual(found[3], text_answer(DOOR))

    def test_the_very_list(self):
        told = answers([0, 7] + row("a@b#1+2") + [4, 3, 3, 5, 0, 6, 4] + row("true"))
        self.assertIs(type(told), list)
        self.assertEqual(told, [1, 0, 8, 0] + row("a@b#1+2") + [1, 0, 1, -4, 1, -2, 3, 0, 1, 0])

    def test_any_call_may_be_first(self):
        for one, want in [(call("load", ""), [0]), (call("add", "a@b#1+1"), [1]), (call("put", 0, "a@b#1+1"), [-2]),
                          (call("drop"), [-4]), (call("text"), [0]), (call("event", 0), [-2]),
                          (call("read", "true"), [0, 1, 0]), (call("show", "true"), text_answer("true")),
                          (call("holds", 0, "true"), [0, 1]), (call("places", "true"), [0, 0]),
                          (call("matches", 0, "[]"), [-2]), (call("patterns", "[]"), [0, 1, 2, 91, 93]),
                          (call("signs", "true"), [0, 1, 0] + with_length("a@a#0+0")), (call("sign", 0, "true"), [-2]),
                          (call("alike", 0, "true"), [-2])]:
            self.assertEqual(answers(one), [len(want)] + want)

    def check_cutting(self, told):
        found = asked(call("load", "a@b#1+1 c@d#2+2"), told, call("text"), told, call("event", 1), told)
        self.assertEqual(found[2], text_answer("a@b#1+1 c@d#2+2"))
        self.assertEqual(found[4], [0, 3, 2, 2, 1, 99, 1, 100])

    def test_all_fifteen_are_cut_rightly(self):
        for text in ("", "[a]", "[", "true", "x" * 1001, [3, 4, 0, 7, 14], [0] * 10, [255, 14]):
            for name in WITHOUT_NUMBER:
                self.check_cutting(call(name, text))
            for name in WITH_NUMBER:
                for i in list(range(-2, 16)) + [LARGE, -LARGE]:
                    self.check_cutting(call(name, i, text))

    def test_numbers_and_bytes_that_look_like_calls(self):
        self.assertEqual(asked([0, 3, 3, 4, 5], [5, 3], [5, 4], [2, 5, 1, 3], call("drop")),
                         [[1, 0], [-2], [-2], [-2], [-4]])

    def test_the_list_handed_in_is_the_same_afterwards(self):
        calls = joined(MANY)
        before = list(calls)
        answers(calls)
        self.assertEqual(calls, before)

    def test_it_is_not_changed_for_a_while_either(self):
        class Kept(list):
            def refuse(self, *given):
                raise AssertionError("the list is changed")

            append = extend = insert = pop = remove = clear = sort = reverse = refuse
            __setitem__ = __delitem__ = __iadd__ = __imul__ = refuse

        self.assertEqual(cut(answers(Kept(joined(MANY)))), MANY_ANSWERS)

    def test_a_second_time_answers_as_the_first_did(self):
        calls = joined(MANY)
        first = answers(calls)
        answers(joined([call("load", run_of(40)), call("read", "[a"), call("show", "!" * 21), call("places", "[b]"),
                        call("signs", "[b@c#1+1]"), call("alike", 3, "[b]")]))
        self.assertEqual(answers(calls), first)
        self.assertEqual(cut(first), MANY_ANSWERS)

    def test_what_is_given_back_is_a_list_of_its_own(self):
        calls = joined(MANY)
        first = answers(calls)
        second = list(first)
        first.append(5)
        first[0] = 77
        self.assertEqual(answers(calls), second)

    def test_four_hundred_calls(self):
        calls = [call("load", " ".join(["abcdefgh@ijklmnop#999+999"] * 40))] + [call("text")] * 399
        found = asked(*calls)
        self.assertEqual(len(found), 400)
        self.assertTrue(all(answer == found[1] and len(answer) == 1040 for answer in found[1:]))

    def test_the_longest_texts(self):
        calls = [call("load", [255] * 4000), call("add", [0] * 4000), call("read", "(" * 4000), call("show", "!" * 4000)]
        self.assertEqual(asked(*calls), [[1, 0], [-1], [1, 0], [1, 0]])


if __name__ == "__main__":
    unittest.main()
