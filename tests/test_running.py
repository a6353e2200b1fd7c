"""[5.1]: runs of coded units."""

import copy
import unittest

from codes import coded_with, some_coded
from onetrace.coded import Coded
from onetrace.errors import NoLetter, TooLong
from onetrace.running import ran
from runs import answer_of, plain_ran, some_letters
from things import THINGS, kept, same, some

CALL = ("call",)
RET = ("ret",)
WHOLE = Coded(2, (
    ("main", 2, (
        ("plus", "x", "a"), ("times", "b", 96), ("push", "b"), ("out", "b"), ("take", "c"),
        ("pick", (("left", 6), ("right", 9), ("up", 4))),
        ("ask", "lib", "get", 3, 11), ("copy", "y", "a"), RET,
        ("pop", "a"), ("go", 8),
        ("out", "a"), ("fail", "lost"),
    )),
    ("sum", 0, (("copy", "a", "x"), ("plus", "a", "y"), RET)),
))
# what comes, what is told behind it, and what is due then
RUN = [
    (("main", (3, 4)), [("call", "main", (3, 4)), ("out", 93)], ("take",)),
    (5, [("take", 5)], ("pick", ("left", "right", "up"))),
    ("up", [("pick", "up")], ("take",)),
    (6, [("take", 6)], ("pick", ("left", "right", "up"))),
    ("left", [("pick", "left"), ("ask", "lib", "get", (3, 93, 6))], ("ask",)),
    (50, [("answer", 50), ("done", 50)], CALL),
    (("sum", ()), [("call", "sum", ()), ("done", 53)], CALL),
    (("main", (0, 0)), [("call", "main", (0, 0)), ("out", 0)], ("take",)),
    (96, [("take", 96)], ("pick", ("left", "right", "up"))),
    ("left", [("pick", "left"), ("ask", "lib", "get", (0, 0, 96))], ("ask",)),
    # it goes on at its instruction, and a stays
    ("!", [("fault",), ("out", 0), ("fail", "lost")], CALL),
    (("sum", ()), [("call", "sum", ()), ("done", 53)], CALL),
    (("main", (96, 1)), [("call", "main", (96, 1)), ("out", 96)], ("take",)),
    (0, [("take", 0)], ("pick", ("left", "right", "up"))),
    ("right", [("pick", "right"), ("done", 96)], CALL),
    (("sum", ()), [("call", "sum", ()), ("done", 52)], CALL),
]
LETTERS = [row[0] for row in RUN]


def told(unit, letters, **named):
    """The events behind letters, but for those that come from without."""
    events, due = ran(unit, letters, **named)
    return [event for event in events if event[0] in ("out", "ask", "done", "fail")], due


class Told(unittest.TestCase):
    def test_each_beginning(self):
        self.assertEqual(ran(WHOLE, []), ([], CALL))
        events = []
        for at, (_, new, due) in enumerate(RUN):
            events = events + new
            letters = LETTERS[:at + 1]
            self.assertTrue(same(kept(ran, WHOLE, letters), (events, due)), letters)
            self.assertEqual(plain_ran(WHOLE, letters), ("run", events, due))

    def test_by_name(self):
        events = ran(unit=WHOLE, letters=LETTERS[:1], most=2)
        self.assertEqual(events, ([("call", "main", (3, 4)), ("out", 93)], ("take",)))
        with self.assertRaises(TypeError):
            ran(WHOLE, [], 400)

    def test_what_is_told_is_new(self):
        letters = LETTERS[:4]
        events, _ = ran(WHOLE, letters)
        ahead = copy.deepcopy(events)
        ran(WHOLE, letters)[0].clear()
        letters.clear()
        self.assertEqual(events, ahead)
        self.assertEqual(ran(WHOLE, LETTERS[:4])[0], ahead)

    def outs(self, *code, numbers=(3, 4), **named):
        """What code tells, less done with 0 at its end."""
        unit = coded_with(*code, ("set", "a", 0), RET, many=len(numbers), **named)
        events, due = told(unit, [("main", numbers)])
        self.assertEqual((events[-1], due), (("done", 0), CALL))
        return [n for _, n in events[:-1]]

    def test_each_sort(self):
        self.assertEqual(self.outs(("set", "a", 96), ("out", "a")), [96])
        self.assertEqual(self.outs(("copy", "c", "b"), ("out", "c"), ("out", "b")), [4, 4])
        self.assertEqual(self.outs(("copy", "y", "b"), ("copy", "b", "a"), ("out", "y"), ("out", "b")), [4, 3])
        self.assertEqual(self.outs(("plus", "a", "b"), ("out", "a"), ("out", "b")), [7, 4])
        self.assertEqual(self.outs(("plus", "b", "b"), ("out", "b")), [8])
        self.assertEqual(self.outs(("set", "h", 95), ("plus", "h", "b"), ("out", "h")), [2])
        self.assertEqual(self.outs(("times", "a", 96), ("out", "a")), [94])
        self.assertEqual(self.outs(("times", "a", 0), ("out", "a")), [0])
        self.assertEqual(self.outs(("push", "a"), ("push", "b"), ("pop", "c"), ("out", "c"), ("pop", "c"), ("out", "c")), [4, 3])
        self.assertEqual(self.outs(("push", "a"), ("set", "a", 9), ("out", "a"), ("pop", "a"), ("out", "a")), [9, 3])
        self.assertEqual(self.outs(("go", 2), ("out", "a"), ("out", "b")), [4])
        self.assertEqual(self.outs(("go", 3), ("out", "a"), ("go", 4), ("go", 1), ("out", "b")), [3, 4])

    def test_by_the_prime(self):
        self.assertEqual(self.outs(("plus", "a", "b"), ("out", "a"), ("times", "b", 4), ("out", "b"), prime=5), [2, 1])
        self.assertEqual(self.outs(("plus", "a", "a"), ("out", "a"), numbers=(1,), prime=2), [0])

    def test_all_places(self):
        for u in "abcdefghxyz":
            code = (("take", u), ("plus", u, u), ("out", u), ("push", u), ("set", u, 1), ("pop", u), ("copy", "a", u), RET)
            unit = coded_with(*code, hidden=3, many=0)
            self.assertEqual(told(unit, [("main", ()), 50]), ([("out", 3), ("done", 3)], CALL))

    def test_where_each_call_begins(self):
        shown = tuple(("out", u) for u in "abcdefghxyz")
        full = tuple(("set", u, at + 1) for at, u in enumerate("abcdefghxyz"))
        for many in range(4):
            unit = coded_with(*shown, *full, ("push", "a"), ("take", "a"), RET, hidden=3, many=many)
            letters = [("main", (7, 8, 9)[:many]), 5, ("main", (96, 95, 94)[:many]), 5]
            outs = [n for word, n in told(unit, letters)[0] if word == "out"]
            begun = lambda *numbers: list(numbers[:many]) + [0] * (8 - many)
            self.assertEqual(outs, begun(7, 8, 9) + [0, 0, 0] + begun(96, 95, 94) + [9, 10, 11])

    def test_the_pile_is_empty_at_a_call(self):
        unit = Coded(0, (("put", 1, (("push", "a"), ("push", "a"), RET)), ("get", 0, (("pop", "a"), RET))))
        letters = [("put", (5,)), ("get", ()), ("put", (5,)), ("put", (6,)), ("put", (7,)), ("get", ())]
        empty = ("fail", "empty")
        self.assertEqual(told(unit, letters)[0], [("done", 5), empty, ("done", 5), ("done", 6), ("done", 7), empty])

    def test_the_edges_of_the_pile(self):
        for many in range(4):
            code = [("push", "a")] * 4 + [("pop", "b")] * many + [("push", "a")] * many + [("out", "a"), RET]
            self.assertEqual(told(coded_with(*code), [("main", (3, 0))]), ([("out", 3), ("done", 3)], CALL))
            code[4 + 2 * many:4 + 2 * many] = [("push", "a")]
            self.assertEqual(told(coded_with(*code), [("main", (3, 0))]), ([("fail", "full")], CALL))
        for many in range(5):
            code = [("push", "a")] * many + [("pop", "b")] * many + [("out", "b")]
            self.assertEqual(told(coded_with(*code, RET), [("main", (3, 0))])[0][-1], ("done", 3))
            self.assertEqual(told(coded_with(*code[:-1], ("pop", "b"), RET), [("main", (3, 0))])[0], [("fail", "empty")])

    def test_an_empty_pop_leaves_its_place(self):
        unit = Coded(1, (("one", 0, (("set", "x", 5), ("pop", "x"))), ("get", 0, (("copy", "a", "x"), RET))))
        self.assertEqual(told(unit, [("one", ()), ("get", ())])[0], [("fail", "empty"), ("done", 5)])

    def test_behind_the_last_one(self):
        end = ("fail", "end")
        self.assertEqual(told(coded_with(), [("main", (1, 2))] * 2), ([end, end], CALL))
        self.assertEqual(told(coded_with(("set", "a", 1)), [("main", (1, 2))]), ([end], CALL))
        self.assertEqual(told(coded_with(("out", "a")), [("main", (1, 2))]), ([("out", 1), end], CALL))
        self.assertEqual(told(coded_with(("go", 2), RET, ("pick", (("a", 0),))), [("main", (1, 2)), "a"])[1], ("pick", ("a",)))
        asked = ("ask", "u", "d", ())
        unit = coded_with(("go", 2), RET, ("ask", "u", "d", 0, 1))
        self.assertEqual(told(unit, [("main", (1, 2)), 7]), ([asked, end], CALL))
        self.assertEqual(told(unit, [("main", (1, 2)), "!"]), ([asked, ("done", 1)], CALL))

    def test_asks(self):
        for n in range(4):
            code = (("set", "c", 9), ("set", "d", 8), ("ask", "u", "d", n, 5), ("plus", "a", "b"), RET, ("fail", "no"))
            unit = coded_with(*code)
            asked = ("ask", "u", "d", (1, 2, 9)[:n])
            self.assertEqual(told(unit, [("main", (1, 2))]), ([asked], ("ask",)))
            self.assertEqual(told(unit, [("main", (1, 2)), 40]), ([asked, ("done", 42)], CALL))
            self.assertEqual(told(unit, [("main", (1, 2)), "!"]), ([asked, ("fail", "no")], CALL))

    def test_a_fault_leaves_all(self):
        code = (("set", "x", 5), ("push", "b"), ("ask", "u", "d", 1, 3), ("pop", "c"), ("plus", "a", "c"), ("plus", "a", "x"), RET)
        unit = coded_with(*code)
        self.assertEqual(told(unit, [("main", (1, 2)), "!"])[0][-1], ("done", 8))
        self.assertEqual(told(unit, [("main", (1, 2)), 50])[0][-1], ("done", 57))

    def test_long_ways(self):
        unit = coded_with(("plus", "x", "b"), ("pick", (("on", 0), ("stop", 2))), ("copy", "a", "x"), RET)
        events, due = ran(unit, [("main", (0, 1))] + ["on"] * 5000 + ["stop"], most=10 ** 4)
        self.assertEqual((len(events), events[-1], due), (5003, ("done", 5001 % 97), CALL))


class Refused(unittest.TestCase):
    def no_letter(self, at, letters, unit=WHOLE, **named):
        with self.assertRaises(NoLetter, msg=letters[-1:]) as caught:
            ran(unit, letters, **named)
        self.assertEqual(caught.exception.at, at)

    def too_long(self, letters, most, unit=WHOLE):
        with self.assertRaises(TooLong):
            ran(unit, letters, most=most)

    def test_wrong_calls(self):
        for letter in THINGS + [
            ("main", (3,)), ("main", (3, 4, 5)), ("main", ()), ("sum", (1,)), ("lib", ()), ("main", [3, 4]),
            ["main", (3, 4)], ("main", (97, 0)), ("main", (0, -1)), ("main", (True, 0)), ("main", (None, 0)),
            ("main",), ("main", 3, 4), "main", "!", 0, ("main", "34"), ("main", {0: 3, 1: 4}), ("main", 2),
        ]:
            self.no_letter(0, [letter])
            self.no_letter(6, LETTERS[:6] + [letter, None])

    def test_wrong_words(self):
        for letter in THINGS + ["down", "Left", "!", ("left",), ["left"], ("left", 6), "end", "full", "empty", 6]:
            self.no_letter(2, LETTERS[:2] + [letter, "left"])

    def test_wrong_numbers(self):
        for letter in THINGS + [97, True, False, "3", "!", (3,), ("sum", ()), "left"]:
            if type(letter) is not int or not 0 <= letter < 97:
                self.no_letter(1, LETTERS[:1] + [letter])
                if letter != "!":
                    self.no_letter(5, LETTERS[:5] + [letter, 3])

    def test_no_list_of_letters(self):
        for letters in (None, 5, "go", (), (("sum", ()),), {}, {0: "go"}, True):
            with self.assertRaises(NoLetter) as caught:
                ran(WHOLE, letters)
            self.assertEqual(caught.exception.at, 0)

    def test_too_long(self):
        for at in range(len(LETTERS) + 1):
            events = ran(WHOLE, LETTERS[:at])[0]
            self.assertEqual(ran(WHOLE, LETTERS[:at], most=len(events))[0], events)
            for most in range(len(events)):
                self.too_long(LETTERS[:at], most)

    def test_four_hundred(self):
        unit = coded_with(RET, many=0)
        self.assertEqual(len(ran(unit, [("main", ())] * 200)[0]), 400)
        self.too_long([("main", ())] * 201, 401, unit)
        with self.assertRaises(TooLong):
            ran(unit, [("main", ())] * 201)
        ran(unit, [("main", ())] * 201, most=402)
        unit = coded_with(*[("out", "a")] * 399, ("take", "a"))
        self.assertEqual(len(ran(unit, [("main", (1, 2))])[0]), 400)
        unit = coded_with(*[("out", "a")] * 400)
        with self.assertRaises(TooLong):
            ran(unit, [("main", (1, 2))])

    def test_whichever_comes_first(self):
        self.no_letter(1, LETTERS[:1] + ["no"], most=2)
        self.too_long(LETTERS[:1] + ["no"], 1)
        self.no_letter(0, ["no"], most=0)
        # what is asked is told ahead of the answer
        many = len(ran(WHOLE, LETTERS[:5])[0])
        self.no_letter(5, LETTERS[:5] + ["no"], most=many)
        self.too_long(LETTERS[:5] + ["no"], many - 1)
        # so is what it fails with
        self.too_long([("main", (1, 2)), "no"], 1, coded_with(("pop", "a")))
        self.no_letter(1, [("main", (1, 2)), "no"], coded_with(("pop", "a")), most=2)

    def test_nothing_is_changed_by_a_refusal(self):
        letters = LETTERS[:2] + [["x", {"x": [1]}], 5]
        ahead = copy.deepcopy(letters)
        self.no_letter(2, letters)
        self.too_long(letters, 1)
        self.assertTrue(same(letters, ahead))


class Chance(unittest.TestCase):
    def test_as_by_another_way(self):
        chance = some(44)
        errors = (NoLetter, TooLong)
        for _ in range(300):
            unit = some_coded(chance)
            letters = some_letters(chance, unit, 15, plain_ran)
            for many in range(0, 16, 3):
                self.assertTrue(same(answer_of(ran, errors, unit, letters[:many]), plain_ran(unit, letters[:many], 400)))
            spoilt = list(letters)
            spoilt[chance.randrange(15)] = chance.choice(THINGS + ["!", 0, 1, "go", ("end", ())])
            for most in (400, chance.randint(0, 20)):
                for row in (letters, spoilt):
                    right = plain_ran(unit, row, most)
                    self.assertTrue(same(answer_of(ran, errors, unit, row, most=most), right), right)
