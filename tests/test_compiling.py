"""Stage 11: the compiler, and [0.2] (e)."""

import unittest

from onetrace.coded import Coded
from onetrace.compiling import STYLE, STYLES, compiled
from onetrace.errors import NoLetter, NoStyle, TooLong
from onetrace.finding import found
from onetrace.leading import flow_of
from onetrace.papers import is_paper
from onetrace.running import ran
from onetrace.small import small_of
from onetrace.spaces import follows
from onetrace.written import Written
from runs import answer_of, plain_walked, some_letters
from things import THINGS, kept, some
from units import HIDDEN, ROWS, some_long_unit, some_unit, unit_with, whole_unit

X = (0, (("x", 1),))
A = (0, (("a", 1),))
ERRORS = (NoLetter, TooLong)


def sizes(unit):
    return [len(code) for _, _, code in unit.deeds()]


class Compiled(unittest.TestCase):
    def does_the_same(self, unit, chance, many=12):
        codes = [kept(compiled, unit, style=style) for style in STYLES]
        for code in codes:
            self.assertIsInstance(code, Coded)
            self.assertEqual((code.hidden(), code.prime()), (len(unit.hidden()), unit.prime()))
            self.assertEqual([(name, many) for name, many, _ in code.deeds()],
                             [(name, len(params)) for name, params, _ in unit.deeds()])
            one, other = flow_of(unit), flow_of(code)
            word, paper = found(one, other)
            self.assertEqual(word, "like")
            self.assertTrue(is_paper(one, other, paper))
            letters = some_letters(chance, unit, many, plain_walked)
            right = plain_walked(unit, letters)
            self.assertEqual(answer_of(ran, ERRORS, code, letters, most=10 ** 6), right)
            # hidden names are the cells, in order: where a call is due both hold the same
            places = one.places() + other.places()
            for name, cell in zip(unit.hidden(), "xyz"):
                row = [0] * (1 + len(places))
                row[1 + one.places().index(name)] = 1
                row[1 + len(one.places()) + other.places().index(cell)] = unit.prime() - 1
                self.assertTrue(follows(paper[0, 0], tuple(row), unit.prime()))
        for plain, near in zip(sizes(codes[0]), sizes(codes[1])):
            self.assertLessEqual(near, plain)
        return codes

    def test_each_sort_of_row(self):
        chance = some(110)
        for row in ROWS.values():
            self.does_the_same(unit_with(row), chance, 9)
            self.does_the_same(unit_with(("take", "y"), row, ("return", (1, (("x", 2), ("y", 3))))), chance, 9)
        self.does_the_same(whole_unit(), chance, 40)
        self.does_the_same(unit_with(), chance)

    def test_names(self):
        chance = some(111)
        variables = ("a", "b", "c", "d")
        for many in range(4):
            names = (*variables, *("x", "y", "z")[:many])
            for params in range(4):
                lets = [("let", name, (at, tuple(sorted({name: 2, "d": 5}.items())))) for at, name in enumerate(names)]
                told = ("out", (0, tuple((name, at + 1) for at, name in enumerate(names))))
                self.does_the_same(unit_with(*lets, told, hidden=names[4:], params=variables[:params]), chance)

    def test_deep_ones(self):
        deep = ("out", (0, (("a", 2), ("x", 1))))
        for kinds in (("loop", "pick", "ask"), ("ask", "loop", "pick"), ("pick", "ask", "loop"), ("loop", "loop", "loop"), ("ask",) * 3):
            rows = (("let", "x", (1, (("a", 3), ("x", 1)))), deep)
            for kind in kinds:
                if kind == "ask":
                    row = ("ask", "a", "lib", "get", (X, A), rows)
                else:
                    row = (kind, (("back", rows), ("go", (("take", "b"),)), ("on", ()))) + (("stop",) if kind == "loop" else ())
                rows = (row, deep)
            self.does_the_same(unit_with(*rows), some(112), 60)

    def test_chance(self):
        chance = some(113)
        for _ in range(120):
            self.does_the_same(some_unit(chance), chance)
        for _ in range(80):
            self.does_the_same(some_long_unit(chance), chance, 20)

    def test_rows_that_are_never_done(self):
        unit = unit_with(("return", X), ("loop", (("go", ()),), "stop"), ("ask", "x", "lib", "get", (), (("out", X),)))
        for code in self.does_the_same(unit, some(114)):
            self.assertEqual(code.asks(), (("lib", "get", 0),))

    def test_one_small_form(self):
        unit = unit_with(("let", "x", (1, (("a", 2), ("x", 1)))), ("pick", (("go", (("out", X),)), ("on", ()))), hidden=("x",), params=("a",))
        right = small_of(flow_of(unit))
        for style in STYLES:
            self.assertTrue(small_of(flow_of(compiled(unit, style=style))) == right)

    def test_greatest_ones(self):
        chance = some(115)
        names = ("a", "b", "c", "x", "y", "z")

        def form(many):
            return chance.randrange(1, 97), tuple((name, chance.randrange(2, 97)) for name in names[:many])
        few = [form(4 - at % 2 * (at < 8)) for at in range(16)]
        lets = tuple(("let", names[at % 6], told) for at, told in enumerate(few))
        outs = tuple(("out", told) for told in few)
        returns = tuple(("return", told) for told in few)
        asks = tuple(("ask", names[at % 6], "lib", "put", (form(1), form(1), form(2 if at < 12 else 1)), ()) for at in range(16))
        ways = tuple((word, ()) for word in ("a", "b", "c", "d"))
        picks = (*[("pick", ways), ("loop", ways, "stop")] * 7, ("out", form(6)), ("let", "a", form(6)))
        fault = ("ask", "x", "lib", "put", (form(6), form(6), form(6)), (("out", form(3)),))
        for rows in (lets, outs, asks, returns, picks, (fault,) * 2 + (("fail", "lost"),), (fault,) * 2 + picks[:12]):
            terms = sum(len(row[2][1]) if row[0] == "let" else len(row[1][1]) if row[0] in ("out", "return") else
                        sum(len(told[1]) for told in row[4]) + 3 * len(row[5]) if row[0] == "ask" else 0 for row in rows)
            self.assertLessEqual(terms, 60)
            unit = Written(names[3:], (("main", names[:3], rows),))
            for code in self.does_the_same(unit, chance, 30):
                self.assertLessEqual(max(sizes(code)), 400)


class Near(unittest.TestCase):
    def grows_by(self, row, style="near"):
        """How many instructions a row is."""
        around = [("take", "c"), ("fail", "lost")]
        ahead = compiled(unit_with(*around), style=style)
        code = compiled(unit_with(around[0], row, around[1]), style=style)
        return sizes(code)[0] - sizes(ahead)[0]

    def test_one_instruction(self):
        for place in ("x", "y", "a", "b", "c"):
            form = (0, ((place, 1),))
            self.assertEqual(self.grows_by(("out", form)), 1)
            for goal in ("x", "y", "a", "b", "c"):
                self.assertEqual(self.grows_by(("let", goal, form)), 1, (goal, place))
        for n in (0, 1, 5, 96):
            for goal in ("x", "a", "c"):
                self.assertEqual(self.grows_by(("let", goal, (n, ()))), 1)
        # within others, too
        for row in (("out", X), ("let", "a", X), ("let", "x", (3, ()))):
            def pick(*rows):
                return ("pick", (("go", rows), ("on", ())))
            self.assertEqual(self.grows_by(pick(row, row, row)), self.grows_by(pick()) + 3)

    def test_no_more_than_plain(self):
        forms = [(n, tuple(terms)) for n in (0, 1, 5) for terms in (
            [], [("x", 1)], [("x", 5)], [("a", 1), ("x", 1)], [("a", 3), ("x", 1)], [("a", 1), ("x", 3)], [("a", 2), ("x", 2), ("y", 1)])]
        for form in forms:
            for row in (("let", "x", form), ("let", "c", form), ("let", "a", form), ("out", form), ("return", form),
                        ("ask", "x", "lib", "put", (form, form, form), ()), ("ask", "a", "lib", "put", (form,), (("out", form),))):
                self.assertLessEqual(self.grows_by(row), self.grows_by(row, "plain"), row)


class Styles(unittest.TestCase):
    def test_words(self):
        self.assertEqual((STYLE, STYLES), ("plain", ("plain", "near")))
        unit = whole_unit()
        self.assertTrue(compiled(unit) == compiled(unit, style="plain"))
        self.assertTrue(compiled(unit=unit, style="near") == compiled(unit, style="near"))
        self.assertGreater(sum(sizes(compiled(unit))), sum(sizes(compiled(unit, style="near"))))
        with self.assertRaises(TypeError):
            compiled(unit, "plain")

    def test_refusals(self):
        unit = whole_unit()
        for style in [*THINGS, "Plain", "plain ", "nearer", "near\n", ("plain",), ["near"], {"plain": 1}, ("plain", "near")]:
            with self.assertRaises(NoStyle):
                kept(compiled, unit, style=style)


if __name__ == "__main__":
    unittest.main()
