"""Stage 6: units as flows."""

import unittest

from codes import coded_with, some_coded, whole_code
from onetrace.coded import Coded
from onetrace.errors import NoLetter, NoUnit, TooLong
from onetrace.flowruns import events_of, state_of
from onetrace.flows import Flow
from onetrace.leading import flow_of
from onetrace.running import ran
from onetrace.walking import walked
from onetrace.written import Written
from runs import answer_of, plain_ran, plain_walked, some_letters
from test_running import LETTERS as CODED_LETTERS, WHOLE as CODED
from test_walking import LETTERS as WRITTEN_LETTERS, WHOLE as WRITTEN
from things import THINGS, kept, same, some
from units import ONE, X, some_unit, unit_with

ERRORS = (NoLetter, TooLong)
REGISTERS = ("a", "b", "c", "d", "e", "f", "g", "h")
PILE = ("p1", "p2", "p3", "p4")


class Places(unittest.TestCase):
    def test_of_a_written(self):
        self.assertEqual(flow_of(WRITTEN).places(), ("x", "y", "v1", "v2", "v3"))
        self.assertEqual(flow_of(unit_with()).places(), ("x", "y", "v1", "v2"))
        self.assertEqual(flow_of(unit_with(hidden=("y", "x"), params=())).places(), ("y", "x"))
        self.assertEqual(flow_of(unit_with(hidden=(), params=())).places(), ())
        unit = Written(("v", "a"), (
            ("one", (), (("take", "a"),)), ("two", ("b",), (("take", "b"), ("take", "c"), ("let", "v", ONE))),
            ("three", ("b", "c", "d"), (("return", ONE), ("take", "e"))), ("four", ("x",), ())))
        self.assertEqual(flow_of(unit).places(), ("v", "a", "v1", "v2", "v3", "v4"))

    def test_of_a_coded(self):
        for many in range(4):
            unit = Coded(many, (("main", 0, ()),))
            self.assertEqual(flow_of(unit).places(), REGISTERS + ("x", "y", "z")[:many] + PILE)

    def test_prime_and_deeds(self):
        for unit in (WRITTEN, CODED, whole_code(), unit_with(prime=2), coded_with(prime=997)):
            flow = flow_of(unit)
            self.assertIs(type(flow), Flow)
            self.assertEqual(flow.prime(), unit.prime())
        self.assertEqual(flow_of(WRITTEN).deeds(), (("main", 2), ("sum", 0)))
        self.assertEqual(flow_of(CODED).deeds(), (("main", 2), ("sum", 0)))
        unit = Written((), (("c", (), ()), ("b", ("x", "y", "z"), ()), ("a", ("y",), ()), ("d", (), ())))
        self.assertEqual(flow_of(unit).deeds(), (("a", 1), ("b", 3), ("c", 0), ("d", 0)))

    def test_by_name(self):
        self.assertEqual(kept(flow_of, unit=WRITTEN), flow_of(WRITTEN))
        self.assertEqual(kept(flow_of, CODED), flow_of(CODED))


class Alike(unittest.TestCase):
    def agree(self, run, unit, letters, most=400):
        """The unit and its flow tell the same, or are refused alike; so do what is kept where a call is due."""
        flow = flow_of(unit)
        right = answer_of(run, ERRORS, unit, letters, most=most)
        self.assertTrue(same(answer_of(events_of, ERRORS, flow, letters, most=most), right), (letters, right))
        return right

    def test_each_beginning(self):
        for run, unit, letters in ((walked, WRITTEN, WRITTEN_LETTERS), (ran, CODED, CODED_LETTERS)):
            for at in range(len(letters) + 1):
                events, _ = run(unit, letters[:at])
                for most in range(len(events) + 1):
                    self.agree(run, unit, letters[:at], most)
                for letter in THINGS:
                    self.agree(run, unit, letters[:at] + [letter, 0])

    def test_no_list_of_letters(self):
        for letters in (None, (), "go", {}, 0):
            self.assertEqual(self.agree(walked, WRITTEN, letters), ("letter", 0))
            self.assertEqual(self.agree(ran, CODED, letters), ("letter", 0))

    def test_chance(self):
        chance = some(45)
        for at in range(300):
            run, plain, unit = (walked, plain_walked, some_unit(chance)) if at % 2 else (ran, plain_ran, some_coded(chance))
            letters = some_letters(chance, unit, 15, plain)
            for many in range(0, 16, 3):
                self.agree(run, unit, letters[:many])
            for most in (400, chance.randint(0, 20)):
                spoilt = list(letters)
                spoilt[chance.randrange(15)] = chance.choice(THINGS + ["!", 0, 1, "go", ("end", ())])
                self.agree(run, unit, letters, most)
                self.agree(run, unit, spoilt, most)

    def test_names_that_look_like_places(self):
        v = (0, (("v", 1),))
        unit = Written(("v", "vx"), (("v", ("a", "b"), (("let", "v", (0, (("a", 1), ("v", 2)))), ("return", v))),))
        self.agree(walked, unit, [("v", (1, 2)), ("v", (3, 4))])
        # one name may be hidden in the place where another one has a variable
        unit = Written((), (("one", ("b", "a"), (("return", (0, (("b", 1),))),)), ("two", ("a",), (("return", (0, (("a", 1),))),))))
        self.assertEqual(self.agree(walked, unit, [("one", (5, 6)), ("two", (7,))])[1][1::2], [("done", 5), ("done", 7)])

    def test_variables_begin_with_0(self):
        a, b = (0, (("a", 1),)), (0, (("b", 1),))
        unit = Written((), (
            ("one", ("a", "b"), (("return", a),)), ("two", (), (("out", a), ("out", b), ("take", "a"), ("take", "b"))),
            ("three", ("b",), (("out", a), ("let", "a", b), ("fail", "no")))))
        letters = [("one", (5, 6)), ("two", ()), 7, 8, ("two", ()), 9, 9, ("three", (4,)), ("two", ()), 1, 2, ("three", (3,))]
        for at in range(len(letters) + 1):
            self.agree(walked, unit, letters[:at])


class Kept(unittest.TestCase):
    def test_what_is_kept(self):
        chance = some(46)
        for at in range(200):
            run, plain, unit = (walked, plain_walked, some_unit(chance)) if at % 2 else (ran, plain_ran, some_coded(chance))
            unit = type(unit)(unit.hidden(), unit.deeds()[:3], prime=unit.prime())
            names = unit.hidden() if at % 2 else "xyz"[:unit.hidden()]
            shown = self.with_shown(unit, names)
            flow = flow_of(unit)
            letters = some_letters(chance, unit, 15, plain)
            for many in range(16):
                if run(unit, letters[:many])[1] == ("call",):
                    number, held = state_of(flow, letters[:many])
                    outs = [event[1] for event in run(shown, letters[:many] + [("shown", ())])[0][-1 - len(names):-1]]
                    self.assertEqual((number, [held[name] for name in names]), (0, outs))

    def with_shown(self, unit, names):
        """The unit with a deed more that tells all that is kept."""
        if isinstance(unit, Written):
            deed = ("shown", (), tuple(("out", (0, ((name, 1),))) for name in names))
        else:
            deed = ("shown", 0, tuple(("out", name) for name in names))
        return type(unit)(unit.hidden(), (*unit.deeds(), deed), prime=unit.prime())


class Largest(unittest.TestCase):
    def test_written(self):
        # 16 rows, as deep as can be, in four deeds
        again = ("loop", (("step", (("let", "x", (1, (("x", 1),))),)),), "stop")
        ask = ("ask", "a", "lib", "get", (X,), (("out", X), again))
        pick = ("pick", (("go", (("out", (2, (("a", 1),))), ("take", "a"))), ("on", (("return", X),)), ("up", ())))
        outer = ("loop", (("in", (("out", ONE), pick, ask)), ("left", ())), "out")
        rows = (outer, ("take", "x"), ("take", "b"), ("out", X), ("ask", "y", "u", "d", (), ()),
                ("let", "c", (0, (("b", 1), ("y", 1)))), ("return", (0, (("c", 1),))))
        with self.assertRaises(NoUnit):
            Written(("x", "y", "z"), (("main", ("a",), (*rows, ("take", "x"))),))
        unit = Written(("x", "y", "z"), tuple((deed, ("a",), rows) for deed in "dbca"))
        flow = flow_of(unit)
        chance = some(47)
        for _ in range(30):
            letters = some_letters(chance, unit, 40, plain_walked)
            for many in range(41):
                self.assertTrue(same(events_of(flow, letters[:many]), walked(unit, letters[:many])))

    def test_sixteen_rows_in_order(self):
        picks = tuple(("pick", (("a", ()), ("b", ()), ("c", ()), ("d", ()))) for _ in range(16))
        unit = unit_with(*picks, params=())
        letters = [("main", ())] + list("abcd" * 4)
        for many in range(18):
            self.assertEqual(events_of(flow_of(unit), letters[:many]), walked(unit, letters[:many]))

    def test_four_hundred_instructions(self):
        chance = some(48)
        # heights of the pile come together with all instructions: each word goes up, down or on
        code = []
        for at in range(0, 400, 4):
            back = chance.randrange(0, 100) * 4
            code += [("pick", (("down", at + 1), ("on", (at + 4) % 400), ("up", at + 2), ("way", back))), ("pop", "b"), ("push", "b"),
                     ("plus", "a", "b")]
        code[-1] = ("take", "x")
        unit = Coded(3, tuple((name, 3, tuple(code)) for name in "abcd"), prime=997)
        flow = flow_of(unit)
        self.assertLessEqual(len(flow), 10000)
        self.assertGreater(len(flow), 7000)
        for _ in range(20):
            letters = some_letters(chance, unit, 60, plain_ran)
            for many in range(0, 61, 4):
                self.assertTrue(same(events_of(flow, letters[:many], most=1000), ran(unit, letters[:many], most=1000)))

    def test_a_pile_that_grows_full_and_empty(self):
        unit = coded_with(("pick", (("down", 3), ("stop", 5), ("up", 1))), ("push", "a"), ("go", 6), ("pop", "a"), ("go", 7),
                          ("ret",), ("plus", "a", "b"), ("out", "a"), ("take", "b"), ("go", 0))
        flow = flow_of(unit)
        for words in ("up " * 5, "down", "up down " * 6, "up up up up down down down down down", "up up down up up up up",
                      "up up up stop"):
            letters = [("main", (1, 2))]
            for at, word in enumerate(words.split()):
                letters += [word, at + 3]
            for many in range(len(letters) + 1):
                try:
                    right = ran(unit, letters[:many])
                except NoLetter:
                    with self.assertRaises(NoLetter):
                        events_of(flow, letters[:many])
                else:
                    self.assertTrue(same(events_of(flow, letters[:many]), right))

    def test_long_rows_of_gos(self):
        code = [("go", at + 1) for at in range(398)] + [("out", "a"), ("ret",)]
        unit = coded_with(*code)
        self.assertEqual(events_of(flow_of(unit), [("main", (5, 6))]), ran(unit, [("main", (5, 6))]))
