"""[3.2]: runs of flows."""

import copy
import unittest

from flowmade import plain_run, some_flow, some_letters
from onetrace.errors import NoLetter, TooLong
from onetrace.flowruns import events_of, led_on, state_of, stops_behind
from onetrace.flows import Flow
from onetrace.forms import worth_of
from things import THINGS, kept, same, some

X = (0, (("x", 1),))
Y = (0, (("y", 1),))
# add(a, b): x is a + b, told; take y; pick: left: ask lib get(x, y), done with its answer or fail; right: done with y
WHOLE = Flow(("y", "x"), (
    ("serve", (("add", ("x", "y"), 1), ("get", (), 7), ("put", ("", "x", ""), 7))),
    ("move", (("x", (0, (("x", 1), ("y", 1)))), ("y", X)), 2),
    ("out", (1, (("x", 2),)), 3),
    ("take", "y", 4),
    ("pick", (("left", 5), ("right", 8), ("up", 4))),
    ("ask", "lib", "get", (X, (3, (("y", 96),))), "x", 7, 6),
    ("fail", "lost"),
    ("done", X),
    ("done", Y),
))
# what comes, and what is told behind it, from one letter to the next
RUN = [
    (("add", (3, 4)), [("call", "add", (3, 4)), ("out", 15)], ("take",), 3, {"y": 3, "x": 7}),
    (96, [("take", 96)], ("pick", ("left", "right", "up")), 4, {"y": 96, "x": 7}),
    ("up", [("pick", "up")], ("pick", ("left", "right", "up")), 4, {"y": 96, "x": 7}),
    ("left", [("pick", "left"), ("ask", "lib", "get", (7, 4))], ("ask",), 5, {"y": 96, "x": 7}),
    (50, [("answer", 50), ("done", 50)], ("call",), 0, {"y": 96, "x": 50}),
    (("get", ()), [("call", "get", ()), ("done", 50)], ("call",), 0, {"y": 96, "x": 50}),
    (("put", (1, 2, 3)), [("call", "put", (1, 2, 3)), ("done", 2)], ("call",), 0, {"y": 96, "x": 2}),
    (("add", (0, 96)), [("call", "add", (0, 96)), ("out", 96)], ("take",), 3, {"y": 0, "x": 96}),
    (0, [("take", 0)], ("pick", ("left", "right", "up")), 4, {"y": 0, "x": 96}),
    ("left", [("pick", "left"), ("ask", "lib", "get", (96, 3))], ("ask",), 5, {"y": 0, "x": 96}),
    ("!", [("fault",), ("fail", "lost")], ("call",), 0, {"y": 0, "x": 96}),
    (("add", (1, 0)), [("call", "add", (1, 0)), ("out", 3)], ("take",), 3, {"y": 1, "x": 1}),
    (5, [("take", 5)], ("pick", ("left", "right", "up")), 4, {"y": 5, "x": 1}),
    ("right", [("pick", "right"), ("done", 5)], ("call",), 0, {"y": 5, "x": 1}),
]
LETTERS = [row[0] for row in RUN]


class Told(unittest.TestCase):
    def test_each_prefix(self):
        self.assertEqual(events_of(WHOLE, []), ([], ("call",)))
        self.assertEqual(state_of(WHOLE, []), (0, {"y": 0, "x": 0}))
        events = []
        for at, (_, told, due, number, held) in enumerate(RUN):
            events = events + told
            letters = LETTERS[:at + 1]
            self.assertTrue(same(kept(events_of, WHOLE, letters), (events, due)), letters)
            self.assertTrue(same(kept(state_of, WHOLE, letters), (number, held)), letters)
            self.assertEqual(list(state_of(WHOLE, letters)[1]), ["y", "x"])

    def test_by_name(self):
        events = events_of(flow=WHOLE, letters=LETTERS[:1], most=2)
        self.assertEqual(events, ([("call", "add", (3, 4)), ("out", 15)], ("take",)))
        self.assertEqual(state_of(flow=WHOLE, letters=LETTERS[:1], most=2), (3, {"y": 3, "x": 7}))
        for function in (events_of, state_of):
            with self.assertRaises(TypeError):
                function(WHOLE, [], 400)

    def test_what_is_told_is_new(self):
        letters = LETTERS[:4]
        events, _ = events_of(WHOLE, letters)
        _, held = state_of(WHOLE, letters)
        ahead = copy.deepcopy((events, held))
        events_of(WHOLE, letters)[0].clear()
        state_of(WHOLE, letters)[1].clear()
        letters.clear()
        self.assertEqual((events, held), ahead)
        self.assertEqual(events_of(WHOLE, LETTERS[:4])[0], events)

    def test_numbers_that_go_nowhere(self):
        flow = Flow(("x",), (
            ("serve", (("go", ("", "", "x"), 1),)), ("take", "", 2), ("ask", "u", "d", (), "", 3, 3), ("out", X, 1)))
        events, due = events_of(flow, [("go", (1, 2, 3)), 4, 5, 6, "!"])
        self.assertEqual(events, [
            ("call", "go", (1, 2, 3)), ("take", 4), ("ask", "u", "d", ()), ("answer", 5), ("out", 3), ("take", 6),
            ("ask", "u", "d", ()), ("fault",), ("out", 3)])
        self.assertEqual(due, ("take",))
        self.assertEqual(state_of(flow, [("go", (1, 2, 3)), 4, 5, 6]), (2, {"x": 3}))

    def test_a_move_reckons_all_ahead(self):
        flow = Flow(("x", "y"), (("serve", (("go", ("x", "y"), 1),)), ("move", (("x", Y), ("y", X)), 2), ("done", X)))
        self.assertEqual(state_of(flow, [("go", (1, 2))]), (0, {"x": 2, "y": 1}))
        self.assertEqual(events_of(flow, [("go", (1, 2))])[0][-1], ("done", 2))

    def test_a_flow_without_places(self):
        flow = Flow((), (("serve", (("go", (), 1),)), ("done", (4, ()))), prime=5)
        self.assertEqual(events_of(flow, [("go", ())]), ([("call", "go", ()), ("done", 4)], ("call",)))
        self.assertEqual(state_of(flow, [("go", ())]), (0, {}))


class Refused(unittest.TestCase):
    def no_letter(self, at, flow, letters, **named):
        for function in (events_of, state_of):
            with self.assertRaises(NoLetter, msg=letters[-1:]) as caught:
                function(flow, letters, **named)
            self.assertEqual(caught.exception.at, at)

    def too_long(self, flow, letters, most):
        for function in (events_of, state_of):
            with self.assertRaises(TooLong):
                function(flow, letters, most=most)

    def test_wrong_calls(self):
        for letter in THINGS + [
            ("add", (3,)), ("add", (3, 4, 5)), ("add", ()), ("get", (1,)), ("put", (1, 2)), ("sub", (3, 4)),
            ("add", [3, 4]), ["add", (3, 4)], ("add", (97, 0)), ("add", (0, -1)), ("add", (True, 0)),
            ("add", (0, False)), ("add", ("3", "4")), ("add", (None, 0)), ("add", 3), ("add",), ("add", 3, 4),
            ("add", (3, 4), ()), (("add",), (3, 4)), (["add"], (3, 4)), ("Add", (3, 4)), ("", ()), "add", "!", 0,
            ("add", {0: 3, 1: 4}), ("add", "34"), (None, ()), (0, ()), ("add", (3, (4,))),
        ]:
            self.no_letter(0, WHOLE, [letter])
            self.no_letter(5, WHOLE, LETTERS[:5] + [letter, 5, None])

    def test_wrong_words(self):
        for letter in THINGS + ["down", "lef", "leftt", "Left", "", "!", 0, ("left",), ["left"], None, ("left", ())]:
            self.no_letter(2, WHOLE, LETTERS[:2] + [letter])
            self.no_letter(3, WHOLE, LETTERS[:3] + [letter, "left"])

    def test_wrong_numbers(self):
        for letter in THINGS + [97, 98, -1, 10 ** 9, True, False, "3", "!", (3,), [3], None, ("add", (3, 4)), "left"]:
            if type(letter) is not int or not 0 <= letter < 97:
                self.no_letter(1, WHOLE, LETTERS[:1] + [letter])

    def test_wrong_answers(self):
        for letter in THINGS + [97, 98, -1, 10 ** 9, True, False, "3", "!!", "left", "", (3,), [3], ["!"], ("!",)]:
            if letter != "!" and (type(letter) is not int or not 0 <= letter < 97):
                self.no_letter(4, WHOLE, LETTERS[:4] + [letter])

    def test_no_list_of_letters(self):
        for letters in (None, 5, "go", (), (("add", (3, 4)),), {}, {0: "go"}, True):
            for function in (events_of, state_of):
                with self.assertRaises(NoLetter) as caught:
                    function(WHOLE, letters)
                self.assertEqual(caught.exception.at, 0)

    def test_too_long(self):
        events = events_of(WHOLE, LETTERS)[0]
        for at in range(len(LETTERS) + 1):
            many = len(events_of(WHOLE, LETTERS[:at])[0])
            self.assertEqual(events_of(WHOLE, LETTERS[:at], most=many)[0], events[:many])
            state_of(WHOLE, LETTERS[:at], most=many)
            for most in range(many):
                self.too_long(WHOLE, LETTERS[:at], most)

    def test_four_hundred(self):
        flow = Flow((), (("serve", (("go", (), 1),)), ("done", (0, ()))))
        self.assertEqual(len(events_of(flow, [("go", ())] * 200)[0]), 400)
        for function in (events_of, state_of):
            with self.assertRaises(TooLong):
                function(flow, [("go", ())] * 201)
            function(flow, [("go", ())] * 201, most=402)
        flow = Flow((), (("serve", (("go", (), 1),)), ("take", "", 1)))
        self.assertEqual(len(events_of(flow, [("go", ())] + [0] * 399)[0]), 400)
        for function in (events_of, state_of):
            with self.assertRaises(TooLong):
                function(flow, [("go", ())] + [0] * 400)

    def test_whichever_comes_first(self):
        # two events by the first letter, none of them too many: the second letter is looked at
        self.no_letter(1, WHOLE, [LETTERS[0], "no"], most=2)
        self.too_long(WHOLE, [LETTERS[0], "no"], 1)
        self.no_letter(0, WHOLE, ["no"], most=0)
        self.too_long(WHOLE, LETTERS[:1], 0)
        # what is asked is told ahead of the answer
        self.too_long(WHOLE, LETTERS[:4] + ["no"], 5 - 1)
        self.too_long(WHOLE, LETTERS[:4] + ["no"], 5)
        self.no_letter(4, WHOLE, LETTERS[:4] + ["no"], most=6)
        self.too_long(WHOLE, LETTERS[:4], 5)

    def test_nothing_is_changed_by_a_refusal(self):
        letters = LETTERS[:3] + [["x", {"x": [1]}], 5]
        ahead = copy.deepcopy(letters)
        self.no_letter(3, WHOLE, letters)
        self.too_long(WHOLE, letters, 1)
        self.assertTrue(same(letters, ahead))


class Stops(unittest.TestCase):
    def test_each_beginning(self):
        stops = [
            [(0, (0, 0))], [(2, (3, 7)), (3, (3, 7))], [(4, (96, 7))], [(4, (96, 7))], [(5, (96, 7))],
            [(7, (96, 50)), (0, (96, 50))], [(7, (96, 50)), (0, (96, 50))], [(7, (96, 2)), (0, (96, 2))],
        ]
        for many, right in enumerate(stops):
            found = kept(stops_behind, WHOLE, LETTERS[:many], 400)
            self.assertEqual([(number, tuple(held.values())) for number, held in found], right)
            self.assertEqual(found[-1], state_of(WHOLE, LETTERS[:many]))

    def test_refused(self):
        with self.assertRaises(NoLetter):
            stops_behind(WHOLE, ["no"], 400)
        with self.assertRaises(TooLong):
            stops_behind(WHOLE, LETTERS, 5)


class Any(unittest.TestCase):
    def answers_as(self, right, flow, letters, most):
        for function, picked in ((events_of, (1, 2)), (state_of, (3, 4))):
            try:
                told = ("run", function(flow, letters, most=most))
            except NoLetter as caught:
                told = ("letter", caught.at)
            except TooLong:
                told = ("long",)
            wanted = (right[0], tuple(right[at] for at in picked)) if right[0] == "run" else right
            self.assertTrue(same(told, wanted), (told, wanted))

    def test_as_by_another_way(self):
        chance = some(20)
        for _ in range(300):
            flow = some_flow(chance)
            letters = some_letters(chance, flow, 8)
            for many in range(9):
                self.answers_as(plain_run(flow, letters[:many], 400), flow, letters[:many], 400)
            spoilt = list(letters)
            spoilt[chance.randrange(8)] = chance.choice(THINGS + ["!", 0, 1, "go", ("get", ())])
            for most in (400, chance.randint(0, 20)):
                self.answers_as(plain_run(flow, spoilt, most), flow, spoilt, most)
                self.answers_as(plain_run(flow, letters, most), flow, letters, most)


class LedOn(unittest.TestCase):
    def test_stopping_steps(self):
        own = {"y": Y, "x": X}
        for number in (0, 2, 3, 4, 5, 6, 7, 8):
            self.assertTrue(same(kept(led_on, WHOLE, number), (number, own)))
        self.assertEqual(list(led_on(WHOLE, 0)[1]), ["y", "x"])

    def test_a_move(self):
        forms = {"y": X, "x": (0, (("x", 1), ("y", 1)))}
        self.assertTrue(same(kept(led_on, WHOLE, 1), (2, forms)))
        self.assertTrue(same(led_on(flow=WHOLE, number=1), (2, forms)))

    def test_several_moves(self):
        flow = Flow(("x", "y", "z"), (
            ("serve", (("go", (), 1),)), ("move", (("x", Y), ("y", X)), 2), ("move", (("z", (3, (("x", 2),))),), 3),
            ("move", (("x", (1, (("z", 1),))), ("z", (0, ())), ("y", (0, (("x", 96), ("y", 1))))), 4), ("done", X)))
        self.assertEqual(led_on(flow, 4), (4, {"x": X, "y": Y, "z": (0, (("z", 1),))}))
        self.assertEqual(led_on(flow, 3), (4, {"x": (1, (("z", 1),)), "y": (0, (("x", 96), ("y", 1))), "z": (0, ())}))
        self.assertEqual(led_on(flow, 2), (4, {"x": (4, (("x", 2),)), "y": (0, (("x", 96), ("y", 1))), "z": (0, ())}))
        self.assertEqual(led_on(flow, 1), (4, {"x": (4, (("y", 2),)), "y": (0, (("x", 1), ("y", 96))), "z": (0, ())}))
        self.assertEqual(list(led_on(flow, 1)[1]), ["x", "y", "z"])

    def test_told_anew(self):
        led_on(WHOLE, 1)[1].clear()
        self.assertEqual(list(led_on(WHOLE, 1)[1]), ["y", "x"])

    def test_long_rows_of_moves(self):
        moves = tuple(("move", (("x", (1, (("x", 2),))),), at + 2) for at in range(9000))
        flow = Flow(("x",), (("serve", (("go", (), 1),)), *moves, ("done", X)))
        n, k = 0, 1
        for _ in range(9000):
            n, k = (2 * n + 1) % 97, 2 * k % 97
        self.assertEqual(led_on(flow, 1), (9001, {"x": (n, (("x", k),))}))

    def test_worths_go_along(self):
        chance = some(21)
        for _ in range(300):
            flow = some_flow(chance)
            p = flow.prime()
            for number in range(len(flow)):
                at, forms = led_on(flow, number)
                self.assertNotEqual(flow.steps()[at][0], "move")
                self.assertEqual(list(forms), list(flow.places()))
                worths = {place: chance.randrange(p) for place in flow.places()}
                held, step = dict(worths), number
                while flow.steps()[step][0] == "move":
                    _, pairs, step = flow.steps()[step]
                    held.update([(place, worth_of(form, held, p)) for place, form in pairs])
                self.assertEqual(step, at)
                self.assertEqual({place: worth_of(form, worths, p) for place, form in forms.items()}, held)
