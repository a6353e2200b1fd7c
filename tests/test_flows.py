"""[3.1]: flows."""

import unittest

from onetrace.errors import NoFlow
from onetrace.flows import Flow
from things import THINGS, WRONG, kept, nested, resized, same, spoiled

X = (0, (("x", 1),))
ONE = (1, ())
PLACES = ("x", "y.2", "lib.x")
# step 1 is a done, step 2 a pick: whatever leads there is no idle round
SERVE = ("serve", (("add", ("x", "", "y.2"), 1), ("get", (), 2)))
REST = (("done", X), ("pick", (("go", 1), ("on", 2))))
STEPS = {
    "serve": SERVE,
    "move": ("move", (("x", (3, (("lib.x", 2), ("x", 96)))), ("y.2", X)), 1),
    "pick": ("pick", (("left", 1), ("right", 2), ("up", 1))),
    "take": ("take", "x", 2),
    "out": ("out", (5, (("y.2", 7),)), 1),
    "ask": ("ask", "lib", "get", (X, ONE, (0, ())), "lib.x", 1, 2),
    "done": ("done", (4, (("x", 1),))),
    "fail": ("fail", "empty"),
}


def flow_with(step, places=PLACES, prime=97):
    """A flow of right steps and this one, as step 3, or as step 0 where it is a serve."""
    if step[:1] == ("serve",):
        return Flow(places, (step, *REST), prime=prime)
    return Flow(places, (SERVE, *REST, step), prime=prime)


def many_steps(many):
    """As many steps, a row of moves with a done at its end."""
    moves = tuple(("move", (), at + 1) for at in range(1, many - 1))
    return (("serve", (("go", (), 1),)), *moves, ("done", ONE)) if many > 1 else ()


class Refusing(unittest.TestCase):
    def refused(self, *things, **named):
        with self.assertRaises(NoFlow) as caught:
            Flow(*things, **named)
        self.assertIs(type(caught.exception), NoFlow)

    def refused_step(self, step):
        with self.assertRaises(NoFlow, msg=step) as caught:
            flow_with(step)
        self.assertIs(type(caught.exception), NoFlow)

    def taken_step(self, step):
        made = flow_with(step)
        self.assertIn(step, made.steps())


class Flows(Refusing):
    def test_each_sort_of_step(self):
        whole = (SERVE, *REST, *STEPS.values())[:3] + tuple(STEPS.values())[1:]
        made = kept(Flow, PLACES, whole, prime=97)
        self.assertEqual(made.places(), PLACES)
        self.assertEqual(made.steps(), whole)
        self.assertEqual(made.prime(), 97)
        self.assertEqual(len(made), len(whole))
        self.assertEqual(made.deeds(), (("add", 3), ("get", 0)))
        for step in STEPS.values():
            self.taken_step(step)

    def test_by_name(self):
        steps = (("serve", (("go", (), 1),)), ("done", ONE))
        self.assertEqual(Flow(places=(), steps=steps, prime=2), Flow((), steps, prime=2))
        self.assertEqual(Flow((), steps).prime(), 97)
        with self.assertRaises(TypeError):
            Flow((), steps, 97)

    def test_equal(self):
        steps = (SERVE, *REST)
        made = Flow(PLACES, steps)
        self.assertTrue(made == Flow(tuple(PLACES), tuple(steps), prime=97))
        self.assertFalse(made != Flow(PLACES, steps))
        for other in (
            Flow(PLACES[::-1], steps), Flow((*PLACES, "z"), steps), Flow(PLACES, (*steps, ("fail", "no"))),
            Flow(PLACES, steps, prime=101),
        ):
            self.assertFalse(made == other)
            self.assertTrue(made != other)
        for thing in THINGS + [steps, PLACES, (PLACES, steps, 97), [PLACES, steps], Flow]:
            self.assertFalse(made == thing)
            self.assertFalse(thing == made)

    def test_deeds(self):
        ways = tuple((word, ("x",) * many, 1) for many, word in enumerate(("a", "b")))
        ways += (("c", ("x", ""), 1), ("d", ("", "", ""), 1), ("e", ("x", "y.2", "lib.x"), 1), ("f", (), 1))
        self.assertEqual(flow_with(("serve", ways)).deeds(),
                         (("a", 0), ("b", 1), ("c", 2), ("d", 3), ("e", 3), ("f", 0)))


class Wholes(Refusing):
    def test_prime(self):
        steps = (("serve", (("go", (), 1),)), ("done", (0, ())))
        for n in (2, 3, 97, 997):
            self.assertEqual(Flow((), steps, prime=n).prime(), n)
        for thing in THINGS:
            if thing not in (2, 3, 97, 997) or isinstance(thing, bool):
                self.refused((), steps, prime=thing)
        for n in (4, 91, 998, 1009, 10 ** 9 + 7, -97, 96):
            self.refused((), steps, prime=n)

    def test_places(self):
        steps = (("serve", (("go", (), 1),)), ("done", (0, ())))
        for places in ((), ("x",), ("y", "x"), ("a" * 40, "a.", "a0"), tuple(f"x{n}" for n in range(100))):
            self.assertEqual(Flow(places, steps).places(), places)
        for thing in THINGS:
            if thing not in ((), ("call",)):
                self.refused(thing, steps)
        for thing in spoiled(("x", "y"), WRONG):
            self.refused(thing, steps)
        for thing in (("x", "x"), ("x", "y", "x"), ("",), ("x", ""), "x", "xy", tuple(f"x{n}" for n in range(101)),
                      ("X",), ("a" * 41,), {"x": 0}, (("x",),), ("x", 0)):
            self.refused(thing, steps)

    def test_steps(self):
        for thing in THINGS + [SERVE, [SERVE, *REST], (SERVE, [*REST]), "serve", REST, (*REST, SERVE)]:
            self.refused(PLACES, thing)
        self.refused(PLACES, (SERVE, *REST, SERVE))
        self.refused(PLACES, (REST[0], SERVE, REST[1]))
        self.refused(PLACES, (SERVE, *REST, ()))
        self.refused(PLACES, (SERVE, *REST, ("go", 1)))

    def test_how_many_steps(self):
        for many in (2, 3, 9999, 10000):
            self.assertEqual(len(Flow((), many_steps(many))), many)
        self.refused((), many_steps(10001))
        self.refused((), ())
        # a serve alone leads nowhere
        self.refused((), (("serve", (("go", (), 0),)),))
        self.refused((), (("serve", (("go", (), 1),)),))
        self.refused((), (("serve", ()),))

    def test_one_thing_wrong(self):
        for word, step in STEPS.items():
            for thing in spoiled(step, WRONG):
                if not isinstance(thing, tuple):
                    self.refused(PLACES, (SERVE, *REST, thing))
                    self.refused(PLACES, (thing, *REST))
                else:
                    self.refused_step(thing)
            for thing in resized(step):
                try:
                    self.taken_step(thing)
                except NoFlow:
                    pass

    def test_sizes(self):
        for step in STEPS.values():
            self.refused_step(step + (0,))
            self.refused_step(step + (1,))
            self.refused_step(step[:-1])
            self.refused_step(step[:1])
            self.refused_step(step[:1] + step)

    def test_words(self):
        for step in STEPS.values():
            for word in THINGS + ["Move", "go", "moves", "call"]:
                if not isinstance(word, str) or word != step[0]:
                    self.refused(PLACES, (SERVE, *REST, (word, *step[1:])))

    def test_nothing_deep_is_raised(self):
        for thing in (nested(30, lambda inner: (inner,)), nested(30, lambda inner: {"serve": inner})):
            self.refused(thing, thing, prime=thing)
            self.refused((), (thing,))
            self.refused((), (SERVE, thing))


class Serves(Refusing):
    def test_ways(self):
        words = ("a", "b", "c", "d", "e", "f", "g")
        for many in range(1, 7):
            self.taken_step(("serve", tuple((word, (), 1) for word in words[:many])))
        self.refused_step(("serve", ()))
        self.refused_step(("serve", tuple((word, (), 1) for word in words)))

    def test_deeds_rise(self):
        for words in (("b", "a"), ("a", "a"), ("a", "c", "b"), ("ab", "a"), ("a", "b", "a")):
            self.refused_step(("serve", tuple((word, (), 1) for word in words)))
        self.taken_step(("serve", (("a", (), 1), ("ab", (), 1), ("b", (), 1))))

    def test_params(self):
        for params in ((), ("x",), ("",), ("", ""), ("", "", ""), ("x", "", "y.2"), ("", "x", ""), PLACES):
            self.taken_step(("serve", (("a", params, 1),)))
        for params in (("x", "x"), ("x", "", "x"), ("x", "y.2", "x"), ("", "", "", ""), (*PLACES, ""), ("z",),
                       ("X",), ["x"], "x", ("x", 0), ("x", None), (("x",),), 1):
            self.refused_step(("serve", (("a", params, 1),)))

    def test_goals(self):
        for to in (1, 2):
            self.taken_step(("serve", (("a", (), to),)))
        for to in (0, -1, 3, 10 ** 9, True, None, "1", (1,)):
            self.refused_step(("serve", (("a", (), to),)))


class Others(Refusing):
    def test_move(self):
        for pairs in ((), (("x", X),), (("y.2", X), ("x", X)), tuple((place, X) for place in PLACES)):
            self.taken_step(("move", pairs, 1))
        for pairs in ((("x", X), ("x", X)), (("x", X), ("y.2", X), ("x", ONE)), (("", X),), (("z", X),), ((X, "x"),),
                      (("x", (0, (("z", 1),))),), (("x", (97, ())),), (("x",),), (("x", X, X),), (("x", X), "x")):
            self.refused_step(("move", pairs, 1))

    def test_pick(self):
        words = ("a", "b", "c", "d", "e", "f", "g")
        for many in range(1, 7):
            self.taken_step(("pick", tuple((word, 1) for word in words[:many])))
        self.refused_step(("pick", ()))
        self.refused_step(("pick", tuple((word, 1) for word in words)))
        for bad in (("b", "a"), ("a", "a"), ("a", "c", "b"), ("a", ""), ("a", "b1"), ("!",), ("a" * 9,)):
            self.refused_step(("pick", tuple((word, 1) for word in bad)))
        self.taken_step(("pick", (("a" * 8, 3),)))

    def test_take(self):
        for place in (*PLACES, ""):
            self.taken_step(("take", place, 1))
        for place in ("z", "X", ("x",), 0, None):
            self.refused_step(("take", place, 1))

    def test_ask(self):
        for many in range(4):
            self.taken_step(("ask", "lib", "get", (X,) * many, "x", 1, 2))
        self.refused_step(("ask", "lib", "get", (X,) * 4, "x", 1, 2))
        self.refused_step(("ask", "lib", "get", X, "x", 1, 2))
        for place in (*PLACES, ""):
            self.taken_step(("ask", "lib", "get", (), place, 1, 1))
        self.refused_step(("ask", "lib", "get", (), "z", 1, 2))
        for name in ("", "lib.x", "x1", "a" * 9, "Lib", 0, None, ("lib",)):
            self.refused_step(("ask", name, "get", (), "x", 1, 2))
            self.refused_step(("ask", "lib", name, (), "x", 1, 2))
        # unlike many forms to one deed are no fault of a flow
        step = ("ask", "lib", "get", (), "x", 1, 2)
        self.assertEqual(len(Flow(PLACES, (SERVE, *REST, step, STEPS["ask"]))), 5)

    def test_goals(self):
        right = [1, 2, 3]
        for to in right + [0, -1, 4, 5, 10 ** 9, True, False, None, "1", (1,)]:
            is_right = to in right and not isinstance(to, bool)
            for step in (("pick", (("a", to), ("b", 1))), ("pick", (("a", 1), ("b", to))), ("take", "", to)):
                (self.taken_step if is_right else self.refused_step)(step)
            for step in (("move", (), to), ("out", X, to), ("ask", "u", "d", (), "", to, 1),
                         ("ask", "u", "d", (), "", 1, to)):
                # such a step that leads to itself goes round
                (self.taken_step if is_right and to != 3 else self.refused_step)(step)

    def test_forms(self):
        right = [(0, ()), (96, ()), X, (1, (("lib.x", 96), ("x", 1), ("y.2", 50)))]
        wrong = [(97, ()), (-1, ()), (0, (("z", 1),)), (0, (("x", 0),)), (0, (("x", 97),)), (0, (("x", True),)),
                 (0, (("x", 1), ("lib.x", 1))), (0, (("x", 1), ("x", 1))), (True, ()), (0, []), [0, ()], 0, "x", "3+x",
                 (0, (("", 1),)), ()]
        for at, form in enumerate(right + wrong):
            for step in (("move", (("x", form),), 1), ("out", form, 1), ("done", form),
                         ("ask", "u", "d", (form,), "", 1, 1), ("ask", "u", "d", (X, X, form), "", 1, 1)):
                (self.taken_step if at < len(right) else self.refused_step)(step)

    def test_forms_by_the_prime(self):
        steps = (("serve", (("go", (), 1),)), ("done", (2, (("x", 2),))))
        self.assertEqual(Flow(("x",), steps, prime=3).prime(), 3)
        self.refused(("x",), steps, prime=2)

    def test_fail(self):
        for word in ("a", "empty", "a" * 8):
            self.taken_step(("fail", word))
        for word in ("", "a" * 9, "a.b", "a1", "A", 0, None, ("a",)):
            self.refused_step(("fail", word))


class IdleRounds(Refusing):
    def with_steps(self, *steps):
        return PLACES, (("serve", (("go", (), 1),)), ("done", X), *steps)

    def test_round_of_one(self):
        for step in (("move", (), 2), ("out", X, 2), ("ask", "u", "d", (), "", 2, 1), ("ask", "u", "d", (), "", 1, 2)):
            self.refused(*self.with_steps(step))
            self.refused(PLACES, (("serve", (("go", (), 2),)), ("done", X), step))

    def test_longer_rounds(self):
        idle = [
            lambda to: ("move", (("x", X),), to), lambda to: ("out", X, to),
            lambda to: ("ask", "u", "d", (), "x", to, 1), lambda to: ("ask", "u", "d", (), "x", 1, to),
            lambda to: ("ask", "u", "d", (), "x", to, to),
        ]
        breaks = [lambda to: ("take", "x", to), lambda to: ("pick", (("a", 1), ("b", to))), lambda to: ("done", X),
                  lambda to: ("fail", "no")]
        for first in idle:
            for second in idle:
                self.refused(*self.with_steps(first(3), second(2)))
                self.refused(*self.with_steps(first(3), second(4), ("move", (), 2)))
                self.assertEqual(len(Flow(*self.with_steps(first(3), second(1)))), 4)
                for third in breaks:
                    self.assertEqual(len(Flow(*self.with_steps(first(3), second(4), third(2)))), 5)

    def test_ways_that_meet_are_no_round(self):
        made = Flow(*self.with_steps(("ask", "u", "d", (), "", 3, 4), ("move", (), 5), ("out", X, 5), ("move", (), 1)))
        self.assertEqual(len(made), 6)

    def test_round_behind_a_way_in_and_a_way_out(self):
        self.refused(*self.with_steps(("move", (), 3), ("ask", "u", "d", (), "", 4, 1), ("out", X, 3)))

    def test_long_round(self):
        steps = many_steps(10000)
        self.refused((), (*steps[:-2], ("move", (), 1), steps[-1]))
        self.refused((), (*steps[:-2], ("move", (), 9997), steps[-1]))
        self.assertEqual(len(Flow((), (*steps[:-2], ("take", "", 1), steps[-1]))), 10000)
