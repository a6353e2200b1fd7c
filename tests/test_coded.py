"""[5.1]: coded units."""

import unittest

from codes import CODE, coded_with, some_coded, whole_code
from onetrace.coded import Coded
from onetrace.errors import NoUnit
from things import THINGS, WRONG, kept, nested, resized, some, spoiled

RET = ("ret",)
# one of each sort, that can stand alone where there are two instructions and two cells
ALONE = [
    ("set", "a", 96), ("copy", "h", "x"), ("plus", "y", "y"), ("times", "b", 0), ("push", "c"), ("pop", "x"),
    ("go", 1), ("pick", (("left", 1), ("right", 0))), ("take", "g"), ("out", "y"), ("ask", "lib", "get", 3, 1), RET,
    ("fail", "lost"),
]


class Refusing(unittest.TestCase):
    def refused(self, *things, **named):
        with self.assertRaises(NoUnit, msg=things) as caught:
            Coded(*things, **named)
        self.assertIs(type(caught.exception), NoUnit)

    def refused_code(self, *code, **named):
        with self.assertRaises(NoUnit, msg=code) as caught:
            coded_with(*code, **named)
        self.assertIs(type(caught.exception), NoUnit)


class Units(Refusing):
    def test_each_sort(self):
        for step in ALONE:
            unit = coded_with(step, RET)
            self.assertEqual(unit.deeds(), (("main", 2, (step, RET)),))
            self.assertEqual((unit.hidden(), unit.prime()), (2, 97))
        unit = whole_code()
        self.assertEqual([name for name, _, _ in unit.deeds()], ["main", "add"])
        self.assertEqual(unit.deeds()[0], ("main", 2, CODE))
        self.assertEqual(unit.asks(), (("lib", "get", 2), ("lib", "put", 0)))

    def test_by_name(self):
        deeds = (("main", 0, ()),)
        unit = kept(Coded, hidden=0, deeds=deeds, prime=2)
        self.assertEqual((unit.hidden(), unit.deeds(), unit.prime(), unit.asks()), (0, deeds, 2, ()))
        self.assertEqual(Coded(3, deeds).prime(), 97)
        with self.assertRaises(TypeError):
            Coded(0, deeds, 97)

    def test_equal(self):
        deeds = (("main", 1, (("set", "a", 1), RET)), ("rest", 0, ()))
        unit = Coded(2, deeds)
        self.assertTrue(unit == Coded(2, deeds, prime=97))
        self.assertFalse(unit != Coded(2, tuple(deeds)))
        for other in (
            Coded(1, deeds), Coded(3, deeds), Coded(2, deeds[::-1]), Coded(2, deeds[:1]), Coded(2, deeds, prime=101),
            Coded(2, (("main", 2, deeds[0][2]), deeds[1])), Coded(2, (("main", 1, (("set", "b", 1), RET)), deeds[1])),
        ):
            self.assertFalse(unit == other)
            self.assertTrue(unit != other)
        for thing in THINGS + [deeds, (2, deeds, 97), Coded]:
            self.assertFalse(unit == thing)
            self.assertFalse(thing == unit)

    def test_asks(self):
        asks = [("lib", "put", 2), ("box", "put", 1), ("lib", "get", 0), ("lib", "put", 2)]
        steps = [("ask", *told, 0) for told in asks]
        unit = Coded(0, (("main", 0, (RET, *steps[1:])), ("again", 1, (RET, steps[0]))))
        self.assertEqual(unit.asks(), (("box", "put", 1), ("lib", "get", 0), ("lib", "put", 2)))

    def test_anything(self):
        right = (("main", 0, ()),)
        for thing in THINGS:
            if type(thing) is not int or not 0 <= thing <= 3:
                self.refused(thing, right)
                self.refused(0, (("main", thing, ()),))
            self.refused(0, thing)
            self.refused(0, (thing,))
            if type(thing) is not int or thing not in (2, 3, 97, 997):
                self.refused(0, right, prime=thing)
            self.refused_code(thing)
            if thing != ():
                self.refused(0, (("main", 0, thing),))
            self.refused(thing, thing, prime=thing)

    def test_one_thing_wrong(self):
        for step in ALONE:
            for thing in spoiled(step, WRONG):
                self.refused_code(thing, RET)
                self.refused_code(RET, thing)
            for thing in resized(step):
                try:
                    self.assertEqual(coded_with(thing, RET).deeds()[0][2], (thing, RET))
                except NoUnit:
                    pass
        for thing in spoiled((("main", 2, (RET,)), ("rest", 0, ())), WRONG):
            self.refused(0, thing)

    def test_words_and_sizes(self):
        for step in ALONE:
            for word in ("Set", "sets", "", "let", "done", "move", "serve", "return", "end", None, 0, (), [], True):
                self.refused_code((word, *step[1:]), RET)
            self.refused_code(step + (0,), RET)
            self.refused_code(step + ("a",), RET)
            if step != RET:
                self.refused_code(step[:-1], RET)
            self.refused_code(step[:1] + step, RET)
        for deed in (("main", 0), ("main", 0, (), ()), ("main",), (), ["main", 0, ()]):
            self.refused(0, (deed,))
        self.refused(0, ("main", 0, ()))

    def test_deep_things(self):
        for make in (lambda inner: (inner,), lambda inner: ("pick", (("a", inner),)), lambda inner: [inner]):
            for depth in (10, 30, 100):
                self.refused_code(nested(depth, make))
                self.refused(0, nested(depth, make))


class Bounds(Refusing):
    def test_hidden(self):
        deeds = (("main", 0, ()),)
        for many in range(4):
            self.assertEqual(Coded(many, deeds).hidden(), many)
        for many in (4, -1, 10 ** 9, True, False, None, "2", (), ("x",), (2,), [2]):
            self.refused(many, deeds)

    def test_how_many_deeds(self):
        deeds = tuple((name, 0, ()) for name in ("e", "b", "c", "d", "a"))
        for many in range(1, 5):
            self.assertEqual(Coded(0, deeds[:many]).deeds(), deeds[:many])
        self.refused(0, ())
        self.refused(0, deeds)
        self.refused(0, list(deeds[:2]))

    def test_names(self):
        for name in ("", "a" * 9, "x.y", "x1", "Main", 0, None, ("main",), True):
            self.refused(0, ((name, 0, ()),))
        for name in ("x", "a", "set", "end", "a" * 8):
            Coded(1, ((name, 0, ()),))
        self.refused(0, (("main", 0, ()), ("main", 0, ())))
        self.refused(0, (("main", 0, ()), ("rest", 0, ()), ("main", 1, (RET,))))

    def test_many(self):
        for many in range(4):
            self.assertEqual(Coded(0, (("main", many, ()),)).deeds()[0][1], many)
        for many in (4, -1, 8, True, False, None, "1", (), ("a",)):
            self.refused(0, (("main", many, ()),))

    def test_how_many_instructions(self):
        for many in (0, 1, 399, 400):
            self.assertEqual(len(coded_with(*[("set", "a", 1)] * many).deeds()[0][2]), many)
        for many in (401, 402, 10000):
            self.refused_code(*[("set", "a", 1)] * many)
        Coded(0, tuple((name, 0, (RET,) * 400) for name in "abcd"))
        self.refused(0, (("one", 0, (RET,) * 400), ("two", 0, (RET,) * 401)))
        self.refused(0, (("main", 0, [RET]),))

    def test_numbers_of_instructions(self):
        makes = (lambda to: ("go", to), lambda to: ("pick", (("go", to),)), lambda to: ("pick", (("a", 3), ("go", to))),
                 lambda to: ("ask", "u", "d", 0, to))
        for make in makes:
            for to in (1, 2, 3):
                coded_with(make(to), RET, RET, RET)
            for to in (4, 5, -1, 400, 10 ** 9, True, False, None, "1", (1,), [1]):
                self.refused_code(make(to), RET, RET, RET)
        coded_with(RET, ("go", 0))
        self.refused_code(RET, ("go", False))
        # of another deed's code
        self.refused(0, (("one", 0, (("go", 1),)), ("two", 0, (RET, RET))))

    def test_places(self):
        makes = (lambda u: ("set", u, 1), lambda u: ("copy", u, "a"), lambda u: ("copy", "a", u), lambda u: ("plus", u, "a"),
                 lambda u: ("plus", "a", u), lambda u: ("times", u, 1), lambda u: ("push", u), lambda u: ("pop", u),
                 lambda u: ("take", u), lambda u: ("out", u))
        for make in makes:
            for hidden in range(4):
                for u in "abcdefgh" + "xyz"[:hidden]:
                    coded_with(make(u), hidden=hidden)
                for u in "ijw" + "xyz"[hidden:]:
                    self.refused_code(make(u), hidden=hidden)
            for u in ("", "ab", "abc", "xy", "A", "a1", "p1", "v1", 0, None, ("a",), ["a"], True):
                self.refused_code(make(u), hidden=3)

    def test_numbers(self):
        for kind in ("set", "times"):
            for p in (2, 97, 997):
                for n in (0, 1, p - 1):
                    coded_with((kind, "a", n), prime=p)
                for n in (p, p + 1, -1, 10 ** 9, True, False, None, "1", (1,), (1, ())):
                    self.refused_code((kind, "a", n), prime=p)
        for p in (0, 1, 4, 91, 998, 1009, -97, True, None, "97"):
            self.refused(0, (("main", 0, ()),), prime=p)

    def test_words(self):
        words = ("a", "b", "c", "d", "e", "f", "g")
        for many in range(1, 7):
            coded_with(("pick", tuple((word, 0) for word in words[:many])))
        for bad in ((), words, ("b", "a"), ("a", "a"), ("a", "c", "b"), ("", "a"), ("a", "b1"), ("a" * 9,), ("!",)):
            self.refused_code(("pick", tuple((word, 0) for word in bad)))
        for ways in ((("a", 0, 0),), (("a",),), ("a", 0), [("a", 0)], (["a", 0],), {"a": 0}, "a"):
            self.refused_code(("pick", ways))
        for word in ("", "a" * 9, "A", "x1", 0, None, ("a",)):
            self.refused_code(("fail", word))
            self.refused_code(("ask", word, "d", 0, 0), RET)
            self.refused_code(("ask", "u", word, 0, 0), RET)

    def test_how_many_are_asked_with(self):
        for p in (2, 3, 97):
            for n in range(4):
                unit = coded_with(RET, ("ask", "u", "d", n, 0), prime=p)
                self.assertEqual(unit.asks(), (("u", "d", n),))
        for n in (4, -1, 8, True, False, None, "1", (), ("a",)):
            self.refused_code(RET, ("ask", "u", "d", n, 0))

    def test_unlike_many(self):
        one, two = ("ask", "u", "d", 1, 0), ("ask", "u", "d", 2, 0)
        coded_with(RET, one, one)
        coded_with(RET, one, ("ask", "u", "e", 2, 0), ("ask", "w", "d", 2, 0))
        self.refused_code(RET, one, two)
        self.refused(0, (("one", 0, (RET, one)), ("two", 0, (RET, two))))


class Rounds(Refusing):
    def test_idle_rounds(self):
        self.refused_code(("go", 0))
        self.refused_code(("go", 1), ("go", 0))
        self.refused_code(("set", "a", 1), ("plus", "a", "a"), ("go", 0))
        self.refused_code(("out", "a"), ("go", 0))
        self.refused_code(("set", "a", 1), ("times", "a", 2), ("copy", "b", "a"), ("go", 1), RET)
        # asks, pushes and pops don't break one
        self.refused_code(("ask", "u", "d", 0, 0), RET)
        self.refused_code(("ask", "u", "d", 0, 2), ("go", 0), RET)
        self.refused_code(("ask", "u", "d", 0, 2), RET, ("go", 0))
        self.refused_code(("push", "a"), ("go", 0))
        self.refused_code(("pop", "a"), ("go", 0))
        self.refused_code(("push", "a"), ("pop", "a"), ("ask", "u", "d", 1, 0), RET)

    def test_come_to_or_not(self):
        self.refused_code(RET, ("go", 1))
        self.refused_code(("go", 3), ("out", "a"), ("go", 1), RET)
        self.refused_code(("fail", "no"), ("set", "a", 0), ("go", 1))
        self.refused(0, (("one", 0, (RET,)), ("two", 0, (RET, ("go", 1)))))

    def test_others(self):
        coded_with(("take", "a"), ("go", 0))
        coded_with(("pick", (("a", 0), ("b", 1))), ("go", 0))
        coded_with(("go", 1), ("out", "a"), ("take", "a"), ("go", 0))
        coded_with(("ask", "u", "d", 0, 1), ("take", "b"), ("go", 0))
        coded_with(RET, ("go", 0))
        coded_with(("fail", "no"), ("out", "a"), ("go", 0))
        coded_with(("go", 2), RET, ("go", 1))
        # behind the last one there is none
        coded_with(("set", "a", 1))
        coded_with(("push", "a"))
        coded_with(*[("go", at + 1) for at in range(399)], ("set", "a", 1))
        self.refused_code(*[("go", at + 1) for at in range(399)], ("go", 0))
        self.refused_code(*[("go", at + 1) for at in range(399)], ("go", 398))

    def test_chance(self):
        chance = some(41)
        for _ in range(200):
            unit = some_coded(chance)
            self.assertEqual(Coded(unit.hidden(), unit.deeds(), prime=unit.prime()), unit)
            self.assertEqual(unit.asks(), tuple(sorted(set(unit.asks()))))
