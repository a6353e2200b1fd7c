"""Stage 13: rewritings, and [0.2] (e)."""

import unittest

from onetrace.compiling import compiled
from onetrace.errors import NoLetter, NoRewrite, NoUnit, TooLong
from onetrace.finding import found
from onetrace.leading import flow_of
from onetrace.passes import PASSES, passed
from onetrace.rewriting import rewrites_of, rewritten
from onetrace.small import small_of
from onetrace.walking import walked
from onetrace.written import Written
from runs import answer_of, plain_walked, some_letters
from things import THINGS, kept, nested, some
from units import some_long_unit, some_unit, unit_with, whole_unit

WORDS = ("merge", "swap", "tail", "unroll")
ERRORS = (NoLetter, TooLong)
X = (0, (("x", 1),))
A = (0, (("a", 1),))
ONE = (1, ())
OUT = ("out", X)


def let(x, n, *places):
    return "let", x, (n, tuple((place, 1) for place in sorted(places)))


def plain_paths(rows, ahead=()):
    """The paths of all rows."""
    for at, row in enumerate(rows):
        yield (*ahead, at)
        inner = [told for _, told in row[1]] if row[0] in ("pick", "loop") else [row[5]] if row[0] == "ask" else []
        for way, told in enumerate(inner):
            yield from plain_paths(told, (*ahead, at, way))


def plain_with(rows, path, make):
    """Rows with those from the one to which a path leads made otherwise, or None."""
    at, *rest = path
    if not rest:
        told = make(rows[at], rows[at + 1] if at + 1 < len(rows) else None)
        return None if told is None else (*rows[:at], *told[0], *rows[at + 1 + told[1]:])
    row = list(rows[at])
    spot = 5 if row[0] == "ask" else 1
    if row[0] == "ask":
        row[spot] = plain_with(row[spot], rest[1:], make)
        told = row[spot]
    else:
        told = plain_with(row[spot][rest[0]][1], rest[1:], make)
        row[spot] = tuple((word, told if way == rest[0] else inner) for way, (word, inner) in enumerate(row[spot]))
    return None if told is None else (*rows[:at], tuple(row), *rows[at + 1:])


def plain_made(word, row, behind, p):
    """What a row and the one behind it become, and whether that is used up; or None."""
    has = {place for place, _ in row[2][1]} if row[0] == "let" else set()
    lets = behind is not None and row[0] == behind[0] == "let"
    if word == "unroll" and row[0] == "loop":
        ways = {name: (*rows, row) for name, rows in row[1]}
        ways[row[2]] = ()
        return (("pick", tuple(sorted(ways.items()))),), 0
    if word == "tail" and row[0] == "pick" and behind is not None:
        return (("pick", tuple((name, (*rows, behind)) for name, rows in row[1])),), 1
    if word == "swap" and lets and row[1] != behind[1]:
        if behind[1] not in has and row[1] not in {place for place, _ in behind[2][1]}:
            return (behind, row), 1
    if word == "merge" and lets and row[1] == behind[1]:
        n, terms = behind[2]
        worths = {}
        for place, k in terms:
            inner = row[2] if place == row[1] else (0, ((place, 1),))
            n += k * inner[0]
            for other, m in inner[1]:
                worths[other] = (worths.get(other, 0) + k * m) % p
        form = (n % p, tuple(sorted((place, k) for place, k in worths.items() if k)))
        return (("let", row[1], form),), 1
    return None


def plain_unit(unit, word, deed, path):
    """The unit that a rewriting makes, or None."""
    name, params, rows = unit.deeds()[deed]
    told = plain_with(rows, list(path), lambda row, behind: plain_made(word, row, behind, unit.prime()))
    if told is None:
        return None
    deeds = (*unit.deeds()[:deed], (name, params, told), *unit.deeds()[deed + 1:])
    try:
        return Written(unit.hidden(), deeds, prime=unit.prime())
    except NoUnit:
        return None


def all_of(unit):
    """All rewritings there are, with the units that they make."""
    told = {}
    for deed, (_, _, rows) in enumerate(unit.deeds()):
        for path in plain_paths(rows):
            for word in WORDS:
                made = plain_unit(unit, word, deed, path)
                if made is not None:
                    told[word, deed, path] = made
    return told


class Rewrites(unittest.TestCase):
    def checks(self, unit):
        """All rewritings are told, and each makes what it should."""
        right = all_of(unit)
        told = kept(rewrites_of, unit)
        self.assertEqual(told, sorted(right))
        for rewrite in told:
            self.assertTrue(kept(rewritten, unit, rewrite) == right[rewrite], rewrite)
            self.assertEqual(found(flow_of(unit), flow_of(right[rewrite]))[0], "like")
        return told

    def does(self, rows, rewrite, other, **named):
        unit = unit_with(*rows, **named)
        self.assertIn(rewrite, self.checks(unit))
        self.assertTrue(rewritten(unit, rewrite) == unit_with(*other, **named))

    def hasnt(self, rows, *words, **named):
        unit = unit_with(*rows, **named)
        self.assertFalse({rewrite[0] for rewrite in self.checks(unit)} & set(words or WORDS))

    def test_unroll(self):
        loop = ("loop", (("go", (OUT, let("x", 1, "x"))), ("up", ())), "stop")
        pick = ("pick", (("go", (OUT, let("x", 1, "x"), loop)), ("stop", ()), ("up", (loop,))))
        self.does([OUT, loop, OUT], ("unroll", 0, (1,)), [OUT, pick, OUT])
        # its ending word is the first one, or the last one
        for word in ("a", "go", "z"):
            loop = ("loop", (("b", ()), ("c", ())), word) if word != "go" else ("loop", (("b", ()),), "go")
            self.assertIn(("unroll", 0, (0,)), self.checks(unit_with(loop)))
        # three ways and the ending one are four, four would be five
        ways = tuple((word, ()) for word in "abcd")
        self.assertEqual(rewrites_of(unit_with(("loop", ways[:3], "x"))), [("unroll", 0, (0,))])
        self.hasnt([("loop", ways, "x")])

    def test_unroll_within_bounds(self):
        def unit(many, around=0):
            row = ("loop", (("a", (OUT,) * many),), "z")
            for _ in range(around):
                row = ("pick", (("a", (row,)),))
            return unit_with(row)
        # 1 of pick, 6 of rows, 1 of loop, 6 of its rows, ..
        self.assertIn(("unroll", 0, (0,)), self.checks(unit(7)))
        self.assertEqual(self.checks(unit(8)), [])
        self.assertIn(("unroll", 0, (0, 0, 0)), self.checks(unit(1, 1)))
        # at most 3 within one another: the loop stands in the pick then
        self.assertEqual(self.checks(unit(1, 2)), [])

    def test_swap(self):
        self.does([let("x", 1, "a"), let("b", 2, "a")], ("swap", 0, (0,)), [let("b", 2, "a"), let("x", 1, "a")])
        self.does([OUT, let("x", 1), let("y", 2), OUT], ("swap", 0, (1,)), [OUT, let("y", 2), let("x", 1), OUT])
        self.hasnt([let("x", 1), let("x", 2)], "swap")
        self.hasnt([let("x", 1), let("b", 2, "x")])
        self.hasnt([let("x", 1, "b"), let("b", 2)])
        self.hasnt([let("x", 1, "b"), let("b", 2, "x")])
        self.does([let("x", 1, "x"), let("b", 2, "b")], ("swap", 0, (0,)), [let("b", 2, "b"), let("x", 1, "x")])
        self.hasnt([let("x", 1), OUT, let("b", 2)])
        self.hasnt([let("x", 1), ("take", "b"), let("b", 2)])

    def test_merge(self):
        self.does([("let", "x", (3, (("a", 2), ("x", 5)))), ("let", "x", (1, (("b", 7), ("x", 10))))], ("merge", 0, (0,)),
                  [("let", "x", (31, (("a", 20), ("b", 7), ("x", 50))))])
        self.does([let("x", 1, "a"), let("x", 4, "b")], ("merge", 0, (0,)), [let("x", 4, "b")])
        # what takes each other off
        self.does([let("x", 1, "a"), ("let", "x", (96, (("a", 96), ("x", 1))))], ("merge", 0, (0,)), [let("x", 0)])
        self.hasnt([let("x", 1), let("b", 4)], "merge")
        self.hasnt([let("x", 1), OUT, let("x", 4)])
        self.assertEqual(self.checks(unit_with(let("x", 1), let("x", 2), let("x", 3))), [("merge", 0, (0,)), ("merge", 0, (1,))])

    def test_tail(self):
        pick = ("pick", (("go", (OUT,)), ("on", ()), ("up", (("return", ONE),))))
        for row in (OUT, let("x", 1), ("take", "b"), ("fail", "lost"), ("return", A), pick, ("ask", "x", "lib", "get", (), (OUT,)),
                    ("loop", (("go", (OUT,)),), "stop")):
            more = ("pick", (("go", (OUT, row)), ("on", (row,)), ("up", (("return", ONE), row))))
            self.does([pick, row, OUT], ("tail", 0, (0,)), [more, OUT])
        self.hasnt([OUT, pick], "tail")
        # rows: the one behind stands thrice
        rows = (OUT,) * 5
        inner = ("pick", (("go", rows),))
        self.assertIn(("tail", 0, (0,)), self.checks(unit_with(("pick", (("a", ()), ("b", ()))), inner)))
        self.assertNotIn(("tail", 0, (0,)), self.checks(unit_with(pick, inner, OUT)))

    def test_each_depth(self):
        pair = (let("x", 1), let("b", 2), let("b", 3))
        rows = pair
        for depth, kind in enumerate(("loop", "ask", "pick")):
            row = ("ask", "x", "lib", "get", (), rows) if kind == "ask" else (kind, (("a", ()), ("go", rows))) + (("stop",) if kind == "loop" else ())
            rows = (OUT, row, *(pair if depth < 2 else ()))
        told = self.checks(unit_with(*rows))
        # in the pick's way, among the rows of the ask, and behind each of the others
        for path in ((1, 1, 1, 0, 1, 1, 0), (1, 1, 1, 0, 2), (1, 1, 2)):
            self.assertIn(("swap", 0, path), told)
            self.assertIn(("merge", 0, (*path[:-1], path[-1] + 1)), told)

    def test_several_deeds(self):
        rows = (let("x", 1), let("b", 2))
        unit = Written(("x",), (("put", (), rows), ("add", (), ()), ("get", (), (OUT,) + rows)))
        self.assertEqual(self.checks(unit), [("swap", 0, (0,)), ("swap", 2, (1,))])
        other = rewritten(unit=unit, rewrite=("swap", 2, (1,)))
        self.assertTrue(other == Written(("x",), (*unit.deeds()[:2], ("get", (), (OUT, rows[1], rows[0])))))
        self.assertEqual(rewrites_of(unit=unit), rewrites_of(unit))

    def test_chance(self):
        chance = some(130)
        words = dict.fromkeys(WORDS, 0)
        for _ in range(300):
            unit = chance.choice((some_unit, some_long_unit, some_long_unit))(chance)
            for rewrite in self.checks(unit):
                words[rewrite[0]] += 1
        self.assertGreater(min(words.values()), 15)

    def test_one_behind_the_other(self):
        chance = some(131)
        longest = 0
        for _ in range(90):
            unit = first = some_long_unit(chance)
            many = 0
            while many < 6 and rewrites_of(unit):
                unit = rewritten(unit, chance.choice(rewrites_of(unit)))
                many += 1
            longest += many == 6
            self.assertEqual(found(flow_of(first), flow_of(unit))[0], "like")
            letters = some_letters(chance, first, 15, plain_walked)
            self.assertEqual(answer_of(walked, ERRORS, unit, letters, most=10 ** 6), plain_walked(first, letters))
            code = compiled(unit, style=chance.choice(("plain", "near")))
            for word in chance.choices(PASSES, k=3):
                code = passed(code, word)
            self.assertEqual(found(flow_of(first), flow_of(code))[0], "like")
        self.assertGreater(longest, 10)

    def test_one_small_form(self):
        unit = unit_with(let("x", 1, "x"), ("loop", (("go", (let("x", 1, "x"), let("x", 2, "x"))),), "stop"), OUT, hidden=("x",), params=())
        right = small_of(flow_of(unit))
        seen = 0
        for rewrite in rewrites_of(unit):
            other = rewritten(unit, rewrite)
            self.assertTrue(small_of(flow_of(other)) == right)
            for again in rewrites_of(other):
                seen += 1
                self.assertTrue(small_of(flow_of(rewritten(other, again))) == right)
        self.assertGreater(seen, 3)

    def test_told_anew(self):
        unit = whole_unit()
        rewrites_of(unit).clear()
        self.assertEqual(rewrites_of(unit), sorted(all_of(unit)))


class NoRewrites(unittest.TestCase):
    def test_of_anything(self):
        rows = (let("x", 1), let("b", 2))
        loop = ("loop", (("go", rows), ("on", ())), "stop")
        unit = Written(("x",), (("put", (), rows), ("get", (), (loop, OUT, *rows, ("ask", "x", "lib", "get", (), rows)))))
        right = rewrites_of(unit)
        self.assertEqual(right, [("swap", 0, (0,)), ("swap", 1, (0, 0, 0)), ("swap", 1, (2,)), ("swap", 1, (4, 0, 0)), ("unroll", 1, (0,))])
        wrong = list(THINGS) + [nested(29, lambda thing: ("swap", 0, (thing,)))]
        for word, deed, path in right:
            wrong += [[word, deed, path], (word, deed, list(path)), (word, deed), (word, deed, path, 0), (word, deed, (*path, 0)),
                      (word, deed, (*path, 0, 0)), (word, deed, path[:-1]), (word, deed, ()), (word, deed, path[0]),
                      (word, bool(deed), path), (word, deed, (*path[:-1], False)), (word, deed, (*path[:-1], True)),
                      (word, deed, (*path[:-1], -1)), (word, -1, path), (word, 2, path), (word, deed - 2, path),
                      (word, deed, (*path[:-1], path[-1] - 5)), (word.upper(), deed, path), (word + " ", deed, path)]
            wrong += [(other, deed, path) for other in ("merge", "tail", "swap", "unroll", "", "let", None, 0, ("swap",)) if other != word]
            wrong += [(word, thing, path) for thing in THINGS if thing != deed or type(thing) is bool]
            wrong += [(word, deed, thing) for thing in THINGS if thing != path]
            wrong += [(word, deed, (*path[:at], thing, *path[at + 1:])) for at in range(len(path)) for thing in THINGS
                      if thing != path[at] or type(thing) is bool]
        refused = 0
        for thing in wrong:
            if thing not in right or any(type(inner) is bool for inner in (thing[1], *thing[2])):
                refused += 1
                with self.assertRaises(NoRewrite):
                    kept(rewritten, unit, thing)
        self.assertGreater(refused, 500)

    def test_of_other_units(self):
        unit = unit_with(let("x", 1), let("b", 2))
        with self.assertRaises(NoRewrite):
            rewritten(unit_with(), ("swap", 0, (0,)))
        with self.assertRaises(NoRewrite):
            rewritten(unit, ("merge", 0, (0,)))
        self.assertTrue(rewritten(rewritten(unit, ("swap", 0, (0,))), ("swap", 0, (0,))) == unit)


if __name__ == "__main__":
    unittest.main()
