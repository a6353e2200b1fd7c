"""[4.1]: written units."""

import unittest

from onetrace.errors import NoUnit
from onetrace.written import Written
from things import THINGS, WRONG, kept, nested, resized, some, spoiled
from units import HIDDEN, ONE, ROWS, X, some_unit, unit_with, whole_unit

OUT = ("out", ONE)


class Refusing(unittest.TestCase):
    def refused(self, *things, **named):
        with self.assertRaises(NoUnit) as caught:
            Written(*things, **named)
        self.assertIs(type(caught.exception), NoUnit)

    def refused_rows(self, *rows, **named):
        with self.assertRaises(NoUnit, msg=rows) as caught:
            unit_with(*rows, **named)
        self.assertIs(type(caught.exception), NoUnit)


class Units(Refusing):
    def test_each_sort_of_row(self):
        for row in ROWS.values():
            unit = unit_with(row)
            self.assertEqual(unit.deeds(), (("main", ("a", "b"), (row,)),))
            self.assertEqual(unit.hidden(), HIDDEN)
            self.assertEqual(unit.prime(), 97)
        unit = whole_unit()
        self.assertEqual([name for name, _, _ in unit.deeds()], ["main", "rest"])
        self.assertEqual(unit.asks(), (("lib", "get", 2), ("lib", "put", 0)))

    def test_by_name(self):
        deeds = (("main", (), ()),)
        unit = kept(Written, hidden=(), deeds=deeds, prime=2)
        self.assertEqual((unit.hidden(), unit.deeds(), unit.prime(), unit.asks()), ((), deeds, 2, ()))
        self.assertEqual(Written((), deeds).prime(), 97)
        with self.assertRaises(TypeError):
            Written((), deeds, 97)

    def test_equal(self):
        deeds = (("main", ("a",), (OUT,)), ("rest", (), ()))
        unit = Written(("x", "y"), deeds)
        self.assertTrue(unit == Written(("x", "y"), deeds, prime=97))
        self.assertFalse(unit != Written(("x", "y"), tuple(deeds)))
        for other in (
            Written(("y", "x"), deeds), Written(("x",), deeds), Written(("x", "y"), deeds[::-1]),
            Written(("x", "y"), deeds[:1]), Written(("x", "y"), deeds, prime=101),
            Written(("x", "y"), (("main", ("b",), (OUT,)), deeds[1])),
        ):
            self.assertFalse(unit == other)
            self.assertTrue(unit != other)
        for thing in THINGS + [deeds, (("x", "y"), deeds, 97), Written]:
            self.assertFalse(unit == thing)
            self.assertFalse(thing == unit)

    def test_asks(self):
        never = ("ask", "x", "box", "put", (X,), ())
        within = ("pick", (("go", (("ask", "c", "arc", "get", (), (("ask", "c", "lib", "put", (X, X), ()),)),)),))
        unit = Written(("x",), (
            ("main", (), (("return", ONE), never, within)), ("again", (), (never, ("ask", "x", "lib", "get", (), ())))))
        self.assertEqual(unit.asks(), (("arc", "get", 0), ("box", "put", 1), ("lib", "get", 0), ("lib", "put", 2)))

    def test_anything(self):
        right = (("main", (), ()),)
        for thing in THINGS:
            if thing not in ((), ("call",)):
                self.refused(thing, right)
            self.refused((), thing)
            self.refused((), (thing,))
            if thing not in (2, 3, 97, 997) or isinstance(thing, bool):
                self.refused((), right, prime=thing)
            if thing != ():
                self.refused_rows(thing)
                self.refused((), (("main", (), thing),))
            self.refused(thing, thing, prime=thing)

    def test_primes(self):
        for n in (2, 3, 997):
            self.assertEqual(Written((), (("main", (), ()),), prime=n).prime(), n)
        for n in (0, 1, 4, 91, 998, 1009, -97, 10 ** 9 + 7):
            self.refused((), (("main", (), ()),), prime=n)

    def test_one_thing_wrong(self):
        for row in ROWS.values():
            for thing in spoiled(row, WRONG):
                self.refused_rows(thing)
                self.refused_rows(("pick", (("go", (thing,)),)))
            for thing in resized(row):
                try:
                    self.assertEqual(unit_with(thing).deeds()[0][2], (thing,))
                except NoUnit:
                    pass
        for thing in spoiled((("main", ("a", "b"), (OUT,)), ("rest", (), ())), WRONG):
            self.refused((), thing)
        for thing in spoiled(("x", "y"), WRONG):
            self.refused(thing, (("main", (), ()),))

    def test_words_and_sizes(self):
        for row in ROWS.values():
            for word in ("Let", "lets", "", "serve", "done", "way", "end", "fault", "move", None, 0, (), []):
                self.refused_rows((word, *row[1:]))
            self.refused_rows(row + (0,))
            self.refused_rows(row + ((),))
            self.refused_rows(row[:-1])
            self.refused_rows(row[:1])
            self.refused_rows(row[:1] + row)
        self.refused((), (("main", ()),))
        self.refused((), (("main", (), (), ()),))

    def test_deep_things(self):
        for make in (lambda inner: (inner,), lambda inner: ("pick", (("a", (inner,)),)),
                     lambda inner: ("ask", "x", "u", "d", (), (inner,))):
            for depth in (10, 30, 100):
                self.refused_rows(nested(depth, make))


class Deeds(Refusing):
    def test_hidden(self):
        deeds = (("main", (), ()),)
        for names in ((), ("x",), ("y", "x", "a" * 8)):
            self.assertEqual(Written(names, deeds).hidden(), names)
        for names in (("x", "y", "z", "a"), ("x", "x"), ("x", "y", "x"), ("",), ("a" * 9,), ("x.y",), ("x1",), "xy",
                      ["x"], ("X",)):
            self.refused(names, deeds)

    def test_how_many_deeds(self):
        deeds = tuple((name, (), ()) for name in ("e", "b", "c", "d", "a"))
        for many in range(1, 5):
            self.assertEqual(Written((), deeds[:many]).deeds(), deeds[:many])
        self.refused((), ())
        self.refused((), deeds)

    def test_names_twice(self):
        self.refused((), (("main", (), ()), ("main", (), ())))
        self.refused((), (("main", (), ()), ("rest", (), ()), ("main", ("a",), (OUT,))))

    def test_names(self):
        for name in ("", "a" * 9, "x.y", "x1", "Main", 0, None, ("main",)):
            self.refused((), ((name, (), ()),))
        # a deed may be called as a hidden name or a known word is
        for name in ("x", "let", "end", "a" * 8):
            self.assertEqual(len(Written(("x",), ((name, ("let",), ()),)).deeds()), 1)

    def test_params(self):
        for params in ((), ("a",), ("b", "a"), ("a", "b", "c")):
            self.assertEqual(Written(("x",), (("main", params, ()),)).deeds()[0][1], params)
        for params in (("a", "b", "c", "d"), ("a", "a"), ("a", "b", "a"), ("x",), ("a", "x"), ("",), ("a.b",), "ab",
                       ["a"], ("a" * 9,)):
            self.refused(("x",), (("main", params, ()),))

    def test_variables(self):
        lets = tuple(("let", name, ONE) for name in ("a", "b", "c", "d", "e"))
        for many in range(5):
            for params in ((), ("a",), ("b", "a")):
                unit_with(*lets[:many], hidden=(), params=params)
        self.refused_rows(*lets, hidden=(), params=())
        self.refused_rows(*lets, hidden=(), params=("a",))
        self.refused_rows(*lets[2:], hidden=(), params=("a", "b"))
        self.refused_rows(*lets[3:], hidden=(), params=("a", "b", "c"))
        # hidden ones don't count
        unit_with(*lets, hidden=("e",), params=("a",))
        unit_with(*lets, hidden=("c", "d", "e"), params=("a", "b"))
        # each deed has its own
        Written((), (("one", ("a",), lets[:4]), ("two", ("e",), lets[1:4])))

    def test_what_is_put_anywhere_counts(self):
        rows = [("take", "a"), ("ask", "b", "u", "d", (), (("take", "c"),)), ("pick", (("go", (("take", "d"),)),)),
                ("return", ONE), ("loop", (("go", (("let", "e", ONE),)),), "stop")]
        unit_with(*rows[:4], hidden=(), params=())
        self.refused_rows(*rows, hidden=(), params=())
        unit_with(*rows, hidden=("x", "e"), params=())

    def test_forms_over_other_names(self):
        z = (0, (("z", 1),))
        for row in (("let", "x", z), ("out", z), ("return", z), ("ask", "x", "u", "d", (z,), ()),
                    ("ask", "x", "u", "d", (ONE, X, z), ()), ("pick", (("go", (("out", z),)),)),
                    ("loop", (("go", (("out", z),)),), "stop"), ("ask", "x", "u", "d", (), (("out", z),))):
            self.refused_rows(row)
            self.refused_rows(("return", ONE), row)
            unit_with(row, hidden=("x", "z"))
            unit_with(row, params=("z",))
            # a name that is put in another row is a variable of the deed, wherever that row stands
            unit_with(row, ("take", "z"))
            unit_with(row, ("return", ONE), ("pick", (("go", (("take", "z"),)),)))
            self.refused(HIDDEN, (("main", (), (row,)), ("rest", ("z",), ())))
        for place in ("lib.x", "x.y", "x1"):
            self.refused_rows(("out", (0, ((place, 1),))))

    def test_numbers_beyond_the_prime(self):
        for form in ((3, ()), (0, (("x", 3),)), (-1, ()), (0, (("x", 0),)), (True, ()), (0, (("x", True),))):
            for row in (("let", "x", form), ("out", form), ("return", form), ("ask", "x", "u", "d", (form,), ())):
                self.refused_rows(row, prime=3)
        unit_with(("out", (2, (("x", 2),))), prime=3)

    def test_how_many_rows(self):
        unit_with(*[OUT] * 16)
        self.refused_rows(*[OUT] * 17)
        self.refused_rows(*[OUT] * 10000)
        pick = ("pick", (("go", (OUT,) * 4), ("on", (OUT,) * 3)))
        unit_with(*[OUT] * 8, pick)
        self.refused_rows(*[OUT] * 9, pick)
        loop = ("loop", (("go", (OUT,) * 5), ("on", (pick,))), "stop")
        unit_with(*[OUT] * 2, loop)
        self.refused_rows(*[OUT] * 3, loop)
        ask = ("ask", "x", "u", "d", (), (OUT,) * 15)
        unit_with(ask)
        self.refused_rows(OUT, ask)
        # also such as are never done, and each deed for itself
        self.refused_rows(("return", ONE), *[OUT] * 16)
        Written((), (("one", (), (OUT,) * 16), ("two", (), (OUT,) * 16)))


class Rows(Refusing):
    def test_within_one_another(self):
        pick = lambda *rows: ("pick", (("go", rows),))
        loop = lambda *rows: ("loop", (("go", rows),), "stop")
        ask = lambda *rows: ("ask", "x", "u", "d", (), rows)
        sorts = (pick, loop, ask)
        for one in sorts:
            for two in sorts:
                for three in sorts:
                    unit_with(one(two(three(OUT))), three(two(one(OUT))))
                    unit_with(one(OUT, two(OUT, three(OUT, ask()))))
                    self.refused_rows(one(two(three(pick()))))
                    self.refused_rows(one(two(three(loop(OUT)))))
                    self.refused_rows(OUT, one(OUT, two(OUT, three(OUT, ask(OUT)))))
                    self.refused_rows(("return", ONE), one(two(three(ask(ask())))))

    def test_ways(self):
        words = ("a", "b", "c", "d", "e")
        for many in range(1, 5):
            ways = tuple((word, ()) for word in words[:many])
            unit_with(("pick", ways))
            unit_with(("loop", ways, "z"))
        for bad in ((), words, ("b", "a"), ("a", "a"), ("a", "c", "b"), ("", "a"), ("a", "b1"), ("a" * 9,), ("!",)):
            ways = tuple((word, ()) for word in bad)
            self.refused_rows(("pick", ways))
            self.refused_rows(("loop", ways, "z"))

    def test_the_word_of_a_loop(self):
        ways = (("a", ()), ("c", (OUT,)), ("e", ()))
        for word in ("b", "d", "f", "aa", "a" * 8):
            unit_with(("loop", ways, word))
        for word in ("a", "c", "e", "", "a" * 9, "A", "b1", None, 0, ("b",)):
            self.refused_rows(("loop", ways, word))
        # a loop within may have the same words
        unit_with(("loop", (("a", (("loop", (("a", ()),), "b"),)),), "b"))

    def test_forms_of_an_ask(self):
        for many in range(4):
            unit_with(("ask", "x", "lib", "get", (X,) * many, ()))
        self.refused_rows(("ask", "x", "lib", "get", (X,) * 4, ()))
        self.refused_rows(("ask", "x", "lib", "get", X, ()))
        self.refused_rows(("ask", "x", "lib", "get", [X], ()))

    def test_unlike_many_forms(self):
        one, two = ("ask", "x", "lib", "get", (X,), ()), ("ask", "x", "lib", "get", (X, X), ())
        unit_with(one, one)
        unit_with(one, ("ask", "x", "lib", "put", (X, X), ()), ("ask", "x", "box", "get", (X, X), ()))
        self.refused_rows(one, two)
        self.refused_rows(one, ("return", ONE), two)
        self.refused_rows(one, ("pick", (("go", (two,)),)))
        self.refused_rows(("ask", "x", "lib", "get", (X,), (two,)))
        self.refused(("x",), (("main", (), (one,)), ("rest", (), (two,))))

    def test_names(self):
        for name in ("", "a" * 9, "x.y", "x1", "X", "!", 0, None, ("x",), ["x"]):
            self.refused_rows(("let", name, ONE))
            self.refused_rows(("take", name))
            self.refused_rows(("fail", name))
            self.refused_rows(("ask", name, "lib", "get", (), ()))
            self.refused_rows(("ask", "x", name, "get", (), ()))
            self.refused_rows(("ask", "x", "lib", name, (), ()))
        for name in ("x", "z", "let", "a" * 8):
            unit_with(("let", name, ONE), ("take", name), ("fail", name), ("ask", name, name, name, (), ()))

    def test_rows_may_be_none(self):
        unit_with()
        unit_with(("pick", (("go", ()),)), ("loop", (("go", ()),), "stop"), ("ask", "x", "u", "d", (), ()))

    def test_chance(self):
        chance = some(30)
        for _ in range(200):
            unit = some_unit(chance)
            self.assertEqual(Written(unit.hidden(), unit.deeds(), prime=unit.prime()), unit)
            self.assertEqual(unit.asks(), tuple(sorted(set(unit.asks()))))
