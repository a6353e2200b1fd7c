"""[4.1] with [3.2]: runs of written units."""

import copy
import unittest

from onetrace.errors import NoLetter, TooLong
from onetrace.walking import walked
from onetrace.written import Written
from runs import answer_of, plain_walked, some_letters
from things import THINGS, kept, same, some
from units import ONE, X, some_unit, unit_with

A = (0, (("a", 1),))
C = (0, (("c", 1),))
CALL = ("call",)
WHOLE = Written(("x", "y"), (
    ("main", ("a", "b"), (
        ("let", "x", (3, (("a", 2), ("y", 96)))),
        ("take", "c"),
        ("out", (0, (("b", 1), ("c", 5)))),
        ("pick", (
            ("left", (("out", X), ("take", "y"))),
            ("right", ()),
            ("up", (("return", ONE), ("out", X))),
        )),
        ("loop", (("add", (("let", "c", (1, (("c", 1),))),)), ("tell", (("out", C),))), "stop"),
        ("ask", "y", "lib", "get", (X, C), (("out", ONE), ("fail", "lost"), ("out", X))),
    )),
    ("sum", (), (("return", (0, (("x", 1), ("y", 1)))), ("take", "x"))),
))
# what comes, what is told behind it, and what is due then
RUN = [
    (("main", (3, 4)), [("call", "main", (3, 4))], ("take",)),
    (2, [("take", 2), ("out", 14)], ("pick", ("left", "right", "up"))),
    ("left", [("pick", "left"), ("out", 9)], ("take",)),
    (50, [("take", 50)], ("pick", ("add", "stop", "tell"))),
    ("tell", [("pick", "tell"), ("out", 2)], ("pick", ("add", "stop", "tell"))),
    ("add", [("pick", "add")], ("pick", ("add", "stop", "tell"))),
    ("add", [("pick", "add")], ("pick", ("add", "stop", "tell"))),
    ("tell", [("pick", "tell"), ("out", 4)], ("pick", ("add", "stop", "tell"))),
    ("stop", [("pick", "stop"), ("ask", "lib", "get", (9, 4))], ("ask",)),
    # behind its last row it is done with 0
    (60, [("answer", 60), ("done", 0)], CALL),
    (("sum", ()), [("call", "sum", ()), ("done", 69)], CALL),
    # y is kept, c is not
    (("main", (0, 96)), [("call", "main", (0, 96))], ("take",)),
    (0, [("take", 0), ("out", 96)], ("pick", ("left", "right", "up"))),
    ("right", [("pick", "right")], ("pick", ("add", "stop", "tell"))),
    ("stop", [("pick", "stop"), ("ask", "lib", "get", (40, 0))], ("ask",)),
    ("!", [("fault",), ("out", 1), ("fail", "lost")], CALL),
    # y stayed
    (("sum", ()), [("call", "sum", ()), ("done", 3)], CALL),
    (("main", (1, 1)), [("call", "main", (1, 1))], ("take",)),
    (96, [("take", 96), ("out", 93)], ("pick", ("left", "right", "up"))),
    ("up", [("pick", "up"), ("done", 1)], CALL),
]
LETTERS = [row[0] for row in RUN]


def told(unit, letters):
    """The events behind letters, but for those that come from without."""
    events, due = walked(unit, letters)
    return [event for event in events if event[0] in ("out", "ask", "done", "fail")], due


class Told(unittest.TestCase):
    def test_each_beginning(self):
        self.assertEqual(walked(WHOLE, []), ([], CALL))
        events = []
        for at, (_, new, due) in enumerate(RUN):
            events = events + new
            letters = LETTERS[:at + 1]
            self.assertTrue(same(kept(walked, WHOLE, letters), (events, due)), letters)
            self.assertEqual(plain_walked(WHOLE, letters), ("run", events, due))

    def test_by_name(self):
        events = walked(unit=WHOLE, letters=LETTERS[:2], most=3)
        self.assertEqual(events, ([("call", "main", (3, 4)), ("take", 2), ("out", 14)], RUN[1][2]))
        with self.assertRaises(TypeError):
            walked(WHOLE, [], 400)

    def test_what_is_told_is_new(self):
        letters = LETTERS[:4]
        events, _ = walked(WHOLE, letters)
        ahead = copy.deepcopy(events)
        walked(WHOLE, letters)[0].clear()
        letters.clear()
        self.assertEqual(events, ahead)
        self.assertEqual(walked(WHOLE, LETTERS[:4])[0], ahead)

    def test_no_rows(self):
        self.assertEqual(told(unit_with(params=()), [("main", ())] * 2), ([("done", 0)] * 2, CALL))
        self.assertEqual(told(unit_with(("let", "x", ONE)), [("main", (1, 2))]), ([("done", 0)], CALL))

    def test_let_is_reckoned_ahead(self):
        unit = unit_with(("let", "a", (0, (("a", 50), ("b", 1)))), ("let", "b", A), ("out", (0, (("b", 1),))))
        self.assertEqual(told(unit, [("main", (4, 7))])[0], [("out", 13), ("done", 0)])

    def test_rows_behind_an_end(self):
        for end, event in ((("return", X), ("done", 0)), (("fail", "no"), ("fail", "no"))):
            later = (("out", ONE), ("take", "x"), ("pick", (("go", ()),)), ("ask", "x", "u", "d", (), ()))
            self.assertEqual(told(unit_with(end, *later), [("main", (1, 2))]), ([event], CALL))
            within = ("pick", (("go", (("out", (5, ())), end, *later)), ("on", ())))
            unit = unit_with(within, ("out", ONE))
            self.assertEqual(told(unit, [("main", (1, 2)), "go"]), ([("out", 5), event], CALL))
            self.assertEqual(told(unit, [("main", (1, 2)), "on"]), ([("out", 1), ("done", 0)], CALL))
            loop = ("loop", (("go", (end, *later)),), "on")
            self.assertEqual(told(unit_with(loop, ("out", ONE)), [("main", (1, 2)), "go"]), ([event], CALL))
            ask = ("ask", "x", "u", "d", (), (end, *later))
            self.assertEqual(told(unit_with(ask, ("out", ONE)), [("main", (1, 2)), "!"])[0], [("ask", "u", "d", ()), event])
            # the next call begins with the first row again
            self.assertEqual(told(unit, [("main", (1, 2)), "go", ("main", (1, 2))])[1], ("pick", ("go", "on")))

    def test_within_one_another(self):
        inner = ("pick", (("left", (("out", (1, ())),)), ("right", (("out", (2, ())),))))
        ask = ("ask", "x", "u", "d", (), (("out", (3, ())), inner, ("out", (4, ()))))
        loop = ("loop", (("again", (("out", (5, ())), ask, ("out", (6, ())))),), "stop")
        unit = unit_with(("out", (7, ())), loop, ("out", (8, ())))
        letters = [("main", (0, 0)), "again", "!", "right", "again", 5, "again", "!", "left", "stop"]
        asked = ("ask", "u", "d", ())
        outs = [7, 5, asked, 3, 2, 4, 6, 5, asked, 6, 5, asked, 3, 1, 4, 6, 8]
        events = [("out", n) if isinstance(n, int) else n for n in outs]
        self.assertEqual(told(unit, letters), (events + [("done", 0)], CALL))
        for at in range(len(letters)):
            self.assertEqual(walked(unit, letters[:at]), plain_walked(unit, letters[:at])[1:])

    def test_what_is_kept(self):
        unit = Written(("x",), (
            ("put", ("a",), (("let", "x", A), ("let", "c", A), ("let", "b", ONE))),
            ("get", (), (("out", X), ("out", C), ("out", (0, (("b", 1),))), ("take", "b"), ("take", "c"))),
            ("more", ("b",), (("out", (0, (("b", 1),))), ("out", C), ("let", "c", (7, ())), ("return", X)))))
        letters = [("get", ()), 5, 6, ("put", (9,)), ("get", ()), 1, 2, ("more", (4,)), ("more", (0,))]
        outs = [("out", 0)] * 3 + [("done", 0)] * 2 + [("out", 9), ("out", 0), ("out", 0), ("done", 0)]
        outs += [("out", 4), ("out", 0), ("done", 9), ("out", 0), ("out", 0), ("done", 9)]
        self.assertEqual(told(unit, letters), (outs, CALL))

    def test_a_failed_ask(self):
        for x in ("x", "a", "c"):
            form = (0, ((x, 1),))
            unit = unit_with(("let", x, (5, ())), ("ask", x, "u", "d", (form,), (("out", ONE),)), ("out", form))
            asked = ("ask", "u", "d", (5,))
            self.assertEqual(told(unit, [("main", (1, 2)), "!"])[0], [asked, ("out", 1), ("out", 5), ("done", 0)])
            self.assertEqual(told(unit, [("main", (1, 2)), 7])[0], [asked, ("out", 7), ("done", 0)])
            unit = unit_with(("let", x, (5, ())), ("ask", x, "u", "d", (form,), ()), ("out", form))
            self.assertEqual(told(unit, [("main", (1, 2)), "!"])[0], [asked, ("out", 5), ("done", 0)])

    def test_words_of_a_loop_rise(self):
        for word, words in (("a", ("a", "c", "e")), ("d", ("c", "d", "e")), ("z", ("c", "e", "z"))):
            unit = unit_with(("loop", (("c", ()), ("e", ())), word))
            self.assertEqual(walked(unit, [("main", (0, 0)), "c", "c", "e"])[1], ("pick", words))
            self.assertEqual(walked(unit, [("main", (0, 0)), "e", word])[1], CALL)

    def test_a_long_loop(self):
        unit = unit_with(("loop", (("on", (("let", "x", (1, (("x", 1),))),)),), "stop"), ("return", X))
        letters = [("main", (0, 0))] + ["on"] * 5000 + ["stop"]
        events, due = walked(unit, letters, most=10 ** 4)
        self.assertEqual((len(events), events[-1], due), (5003, ("done", 5000 % 97), CALL))


class Refused(unittest.TestCase):
    def no_letter(self, at, letters, unit=WHOLE, **named):
        with self.assertRaises(NoLetter, msg=letters[-1:]) as caught:
            walked(unit, letters, **named)
        self.assertEqual(caught.exception.at, at)

    def too_long(self, letters, most, unit=WHOLE):
        with self.assertRaises(TooLong):
            walked(unit, letters, most=most)

    def test_wrong_calls(self):
        for letter in THINGS + [
            ("main", (3,)), ("main", (3, 4, 5)), ("main", ()), ("sum", (1,)), ("lib", ()), ("main", [3, 4]),
            ["main", (3, 4)], ("main", (97, 0)), ("main", (0, -1)), ("main", (True, 0)), ("main", (None, 0)),
            ("main",), ("main", 3, 4), "main", "!", 0, ("main", "34"), ("main", {0: 3, 1: 4}),
        ]:
            self.no_letter(0, [letter])
            self.no_letter(10, LETTERS[:10] + [letter, None])

    def test_wrong_words(self):
        for letter in THINGS + ["stop", "add", "down", "Left", "!", ("left",), ["left"], ("left", ())]:
            self.no_letter(2, LETTERS[:2] + [letter, "left"])
        for letter in THINGS + ["left", "stops", "!", ("stop",), 3]:
            self.no_letter(4, LETTERS[:4] + [letter])

    def test_wrong_numbers(self):
        for letter in THINGS + [97, True, False, "3", "!", (3,), ("sum", ()), "left"]:
            if type(letter) is not int or not 0 <= letter < 97:
                self.no_letter(1, LETTERS[:1] + [letter])
                if letter != "!":
                    self.no_letter(9, LETTERS[:9] + [letter, 3])

    def test_no_list_of_letters(self):
        for letters in (None, 5, "go", (), (("sum", ()),), {}, {0: "go"}, True):
            with self.assertRaises(NoLetter) as caught:
                walked(WHOLE, letters)
            self.assertEqual(caught.exception.at, 0)

    def test_too_long(self):
        for at in range(len(LETTERS) + 1):
            events = walked(WHOLE, LETTERS[:at])[0]
            self.assertEqual(walked(WHOLE, LETTERS[:at], most=len(events))[0], events)
            for most in range(len(events)):
                self.too_long(LETTERS[:at], most)

    def test_four_hundred(self):
        unit = unit_with(params=())
        self.assertEqual(len(walked(unit, [("main", ())] * 200)[0]), 400)
        self.too_long([("main", ())] * 201, 401, unit)
        with self.assertRaises(TooLong):
            walked(unit, [("main", ())] * 201)
        walked(unit, [("main", ())] * 201, most=402)

    def test_whichever_comes_first(self):
        self.no_letter(1, LETTERS[:1] + ["no"], most=1)
        self.too_long(LETTERS[:1] + ["no"], 0)
        self.no_letter(0, ["no"], most=0)
        self.no_letter(2, LETTERS[:2] + ["no"], most=3)
        self.too_long(LETTERS[:2] + ["no"], 2)
        # what is asked is told ahead of the answer
        many = len(walked(WHOLE, LETTERS[:9])[0])
        self.no_letter(9, LETTERS[:9] + ["no"], most=many)
        self.too_long(LETTERS[:9] + ["no"], many - 1)

    def test_nothing_is_changed_by_a_refusal(self):
        letters = LETTERS[:3] + [["x", {"x": [1]}], 5]
        ahead = copy.deepcopy(letters)
        self.no_letter(3, letters)
        self.too_long(letters, 1)
        self.assertTrue(same(letters, ahead))


class Chance(unittest.TestCase):
    def test_as_by_another_way(self):
        chance = some(40)
        errors = (NoLetter, TooLong)
        for _ in range(200):
            unit = some_unit(chance)
            letters = some_letters(chance, unit, 15, plain_walked)
            for many in range(0, 16, 3):
                self.assertTrue(same(answer_of(walked, errors, unit, letters[:many]), plain_walked(unit, letters[:many], 400)))
            spoilt = list(letters)
            spoilt[chance.randrange(15)] = chance.choice(THINGS + ["!", 0, 1, "go", ("end", ())])
            for most in (400, chance.randint(0, 20)):
                for row in (letters, spoilt):
                    right = plain_walked(unit, row, most)
                    self.assertTrue(same(answer_of(walked, errors, unit, row, most=most), right), right)
