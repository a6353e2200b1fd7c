"""Stage 12: passes, and [0.2] (e)."""

import unittest

from codes import CODE, coded_with, some_coded, whole_code
from onetrace.coded import Coded
from onetrace.compiling import STYLES, compiled
from onetrace.errors import NoLetter, NoStyle, NoUnit, TooLong
from onetrace.finding import found
from onetrace.leading import flow_of
from onetrace.passes import PASSES, passed
from onetrace.running import ran
from onetrace.small import small_of
from runs import answer_of, plain_ran, some_letters
from things import THINGS, kept, some
from units import some_long_unit, some_unit

REGISTERS = "abcdefgh"
ERRORS = (NoLetter, TooLong)
END = ("fail", "end")


def nexts(code, at):
    """Where ways lead to from an instruction, behind the last one too, with the kind of each."""
    kind, *things = code[at]
    if kind == "go":
        return [("on", things[0])]
    if kind == "pick":
        return [("on", to) for _, to in things[0]]
    if kind == "ask":
        return [("answer", at + 1), ("fault", things[3])]
    return [] if kind in ("ret", "fail") else [("on", at + 1)]


def reached(code):
    known, waiting = set(), [0]
    while waiting:
        at = waiting.pop()
        if at < len(code) and at not in known:
            known.add(at)
            waiting += [to for _, to in nexts(code, at)]
    return known


def looks(step):
    kind, *things = step
    if kind == "ask":
        return set(REGISTERS[:things[2]])
    return {"ret": {"a"}, "copy": set(things[1:]), "plus": set(things), "times": {things[0] if things else ""},
            "push": set(things), "out": set(things)}.get(kind, set())


def is_looked_at(code, at, register):
    """Whether behind an instruction a way looks at a register ahead of what puts to it."""
    known, waiting = set(), [to for _, to in nexts(code, at)]
    while waiting:
        at = waiting.pop()
        if at == len(code) or at in known:
            continue
        known.add(at)
        step = code[at]
        if register in looks(step):
            return True
        if step[0] in ("set", "copy", "plus", "times", "pop", "take") and step[1] == register:
            continue
        # an answer puts to a, a fault doesn't
        waiting += [to for kind, to in nexts(code, at) if kind != "answer" or register != "a"]
    return False


def without(code, gone):
    """A code without some instructions; what led to one of them leads behind it."""
    numbers = [sum(at not in gone for at in range(to)) for to in range(len(code) + 1)]
    left = []
    for at, (kind, *things) in enumerate(code):
        if at in gone:
            continue
        if kind == "go":
            things = [numbers[things[0]]]
        elif kind == "pick":
            things = [tuple((word, numbers[to]) for word, to in things[0])]
        elif kind == "ask":
            things = [*things[:3], numbers[things[3]]]
        left.append((kind, *things))
    if any(to == len(left) and kind != "answer" and step[0] in ("go", "pick", "ask")
           for at, step in enumerate(left) for kind, to in nexts(left, at)):
        left.append(END)
    return tuple(left)


def plain_dead(code):
    while True:
        gone = {at for at, step in enumerate(code) if step[0] in ("set", "copy", "plus", "times") and step[1] in REGISTERS
                and not is_looked_at(code, at, step[1])}
        if not gone:
            return code
        code = without(code, gone)


def plain_told(code, many, p):
    """Of each instruction that is come to the dict of what is known there: as much as can be, then less and less."""
    come = reached(code)
    # any stands for all numbers at once: nothing has led there yet
    told = {at: dict.fromkeys(REGISTERS, "any") for at in come}

    def behind(at, kind):
        now = dict(told[at])
        word, *things = code[at]
        if word == "set":
            now[things[0]] = things[1]
        elif word == "copy":
            now[things[0]] = now.get(things[1])
        elif word == "plus":
            n, m = now.get(things[0]), now.get(things[1])
            now[things[0]] = None if None in (n, m) else "any" if "any" in (n, m) else (n + m) % p
        elif word == "times":
            n = now.get(things[0])
            now[things[0]] = 0 if things[1] == 0 else n if n in (None, "any") else n * things[1] % p
        elif word in ("pop", "take"):
            now[things[0]] = None
        elif kind == "answer":
            now["a"] = None
        return now
    while True:
        less = {}
        for at in come:
            states = [{r: None if REGISTERS.index(r) < many else 0 for r in REGISTERS}] if at == 0 else []
            states += [behind(ahead, kind) for ahead in come for kind, to in nexts(code, ahead) if to == at]
            less[at] = {}
            for r in REGISTERS:
                numbers = {state[r] for state in states} - {"any"}
                less[at][r] = "any" if not numbers else numbers.pop() if len(numbers) == 1 else None
        if less == told:
            return told
        told = less


def plain_known(code, many, p):
    told = plain_told(code, many, p)
    made, gone = list(code), set()
    for at, now in told.items():
        kind, *things = code[at]
        if kind not in ("set", "copy", "plus", "times"):
            continue
        u, v = things
        n = now.get(u)
        if kind == "set":
            come = v
        elif kind == "copy":
            come = now.get(v)
        elif kind == "plus":
            come = None if None in (n, now.get(v)) else (n + now[v]) % p
        else:
            come = 0 if v == 0 else None if n is None else n * v % p
        if come is not None:
            made[at] = ("set", u, come)
        nothing = (kind == "copy" and u == v) or (kind == "plus" and now.get(v) == 0) or (kind == "times" and v == 1)
        if nothing or (come is not None and n == come):
            gone.add(at)
    return without(made, gone)


def code_of(code, word, many=0, hidden=2, prime=97):
    """What a pass makes of a code."""
    unit = coded_with(*code, hidden=hidden, many=many, prime=prime)
    told = kept(passed, unit, word)
    return told.deeds()[0][2]


class Passed(unittest.TestCase):
    def passes(self, unit, word, chance):
        told = kept(passed, unit, word)
        self.assertIsInstance(told, Coded)
        self.assertEqual((told.hidden(), told.prime()), (unit.hidden(), unit.prime()))
        self.assertEqual([deed[:2] for deed in told.deeds()], [deed[:2] for deed in unit.deeds()])
        for (_, many, code), (_, _, ahead) in zip(told.deeds(), unit.deeds()):
            self.assertLessEqual(len(code), len(ahead))
            if word == "short":
                self.is_short(code)
            elif word == "dead":
                self.assertEqual(code, plain_dead(ahead))
            else:
                self.assertEqual(code, plain_known(ahead, many, unit.prime()))
        self.assertTrue(passed(told, word) == told)
        self.assertEqual(found(flow_of(unit), flow_of(told))[0], "like")
        letters = some_letters(chance, unit, 6, plain_ran)
        self.assertEqual(answer_of(ran, ERRORS, told, letters, most=10 ** 6), plain_ran(unit, letters))
        return told

    def is_short(self, code):
        self.assertEqual(reached(code), set(range(len(code))))
        for at, step in enumerate(code):
            if step[0] == "go":
                self.assertNotEqual(code[step[1]][0], "go")
                self.assertNotEqual(step[1], at + 1)

    def test_words(self):
        self.assertEqual(PASSES, ("short", "dead", "known"))
        unit = whole_code()
        self.assertTrue(passed(unit=unit, word="dead") == passed(unit, "dead"))
        for word in [*THINGS, "Short", "short ", "plain", "near", ("short",), ["dead"], {"known": 1}, PASSES]:
            with self.assertRaises(NoStyle):
                kept(passed, unit, word)

    def test_chance(self):
        chance = some(120)
        changes = dict.fromkeys(PASSES, 0)
        for _ in range(500):
            unit = some_coded(chance, chance.choice((5, 9, 15)))
            for word in PASSES:
                changes[word] += not self.passes(unit, word, chance) == unit
        self.assertGreater(min(changes.values()), 100)

    def test_straight_code(self):
        # what is put and reckoned alone, with some ways about it
        chance = some(121)
        for _ in range(400):
            many = chance.randint(1, 14)
            p = chance.choice((2, 3, 97))
            places = ["a", "b", "c", "x"]
            code = []
            for at in range(many):
                kind = chance.choice(("set", "set", "copy", "plus", "times", "times", "out", "pick", "ask", "go", "pop", "push"))
                u, v = chance.choice(places), chance.choice(places)
                if kind in ("set", "times"):
                    code.append((kind, u, chance.choice((0, 1, p - 1))))
                elif kind in ("copy", "plus"):
                    code.append((kind, u, v))
                elif kind == "pick":
                    code.append((kind, (("go", chance.randrange(many)), ("on", chance.randrange(many)))))
                elif kind == "ask":
                    code.append((kind, "lib", "get", 1, chance.randrange(at, many)))
                else:
                    code.append((kind, chance.randrange(at, many)) if kind == "go" else (kind, u))
            try:
                unit = coded_with(*code, ("ret",), hidden=1, many=chance.randint(0, 3), prime=p)
            except NoUnit:
                continue
            for word in PASSES:
                self.passes(unit, word, chance)

    def test_in_any_order(self):
        chance = some(122)
        for _ in range(120):
            one = chance.choice((some_unit, some_long_unit))(chance)
            unit = compiled(one, style=chance.choice(STYLES))
            words = chance.choices(PASSES, k=chance.randint(1, 6))
            for word in words:
                unit = self.passes(unit, word, chance)
            self.assertEqual(found(flow_of(one), flow_of(unit))[0], "like")

    def test_one_small_form(self):
        chance = some(123)
        looked = 0
        for _ in range(100):
            unit = some_coded(chance, 9)
            right = found(flow_of(unit), flow_of(unit))[1]
            if len(right) * 16 > 60:
                continue
            looked += 1
            for word in PASSES:
                self.assertTrue(small_of(flow_of(passed(unit, word))) == small_of(flow_of(unit)))
        self.assertGreater(looked, 20)

    def test_all_deeds(self):
        code = (("go", 1), ("times", "a", 1), ("set", "b", 3), ("ret",))
        unit = Coded(3, (("one", 1, code), ("two", 0, ()), ("main", 3, code), ("add", 0, code)), prime=7)
        for word, left in (("short", code[1:]), ("dead", (("go", 1), code[1], ("ret",))), ("known", (("go", 1), *code[2:]))):
            told = passed(unit, word)
            self.assertEqual(told.deeds()[:3], (("one", 1, left), ("two", 0, ()), ("main", 3, left)))
        self.assertEqual(passed(whole_code(), "known").deeds()[0][0], "main")


class Short(unittest.TestCase):
    def test_by_hand(self):
        for code, right in (
            ((), ()),
            ((("ret",),), (("ret",),)),
            # to a go, to the one behind it, to which no way leads
            ((("go", 1), ("ret",)), (("ret",),)),
            ((("go", 2), ("fail", "lost"), ("go", 3), ("ret",)), (("ret",),)),
            ((("pick", (("a", 1), ("b", 3))), ("go", 4), ("fail", "lost"), ("fail", "gone"), ("ret",)),
             (("pick", (("a", 3), ("b", 2))), ("go", 3), ("fail", "gone"), ("ret",))),
            ((("ret",), ("set", "a", 1), ("pick", (("a", 0),))), (("ret",),)),
            ((("take", "a"), ("go", 0)), (("take", "a"), ("go", 0))),
            ((("take", "a"), ("go", 3), ("ret",), ("go", 0)), (("take", "a"), ("go", 0))),
            ((("ask", "lib", "get", 0, 2), ("ret",), ("go", 3), ("fail", "lost")),
             (("ask", "lib", "get", 0, 2), ("ret",), ("fail", "lost"))),
            ((("set", "a", 1), ("go", 2), ("out", "a")), (("set", "a", 1), ("out", "a"))),
        ):
            told = code_of(code, "short")
            if right and right[0][0] == "pick":
                # whether the pick leads by the go or past it is free
                self.assertIn(told, (right, (("pick", (("a", 2), ("b", 1))), *right[2:])))
            else:
                self.assertEqual(told, right)

    def test_long_ways(self):
        code = tuple(("go", at + 1) for at in range(399)) + (("ret",),)
        self.assertEqual(code_of(code, "short"), (("ret",),))
        # to and fro
        code = [("go", 10)] + [("fail", "lost")] * 10
        code[10], code[5], code[7] = ("go", 5), ("go", 7), ("out", "a")
        self.assertEqual(code_of(tuple(code), "short"), (("out", "a"), ("fail", "lost")))


class Dead(unittest.TestCase):
    def test_by_hand(self):
        ret = ("ret",)
        for code, right in (
            # each kind, and each that looks
            ((("set", "b", 1), ("copy", "c", "a"), ("plus", "d", "a"), ("times", "e", 2), ret), (ret,)),
            ((("set", "x", 1), ("copy", "x", "a"), ("plus", "y", "a"), ("times", "y", 2), ret), None),
            ((("set", "a", 1), ret), None),
            ((("set", "b", 1), ("push", "b"), ret), None),
            ((("set", "b", 1), ("out", "b"), ret), None),
            ((("set", "b", 1), ("copy", "x", "b"), ret), None),
            ((("set", "b", 1), ("plus", "x", "b"), ret), None),
            ((("set", "b", 1), ("plus", "b", "x"), ("out", "b")), None),
            ((("set", "b", 1), ("times", "b", 2), ("out", "b")), None),
            ((("set", "a", 1), ("fail", "lost")), (("fail", "lost"),)),
            ((("set", "a", 1),), ()),
            # what puts anew
            ((("set", "a", 1), ("set", "a", 2), ret), (("set", "a", 2), ret)),
            ((("set", "a", 1), ("copy", "a", "b"), ret), (("copy", "a", "b"), ret)),
            ((("set", "a", 1), ("take", "a"), ret), (("take", "a"), ret)),
            ((("set", "a", 1), ("push", "x"), ("pop", "a"), ret), (("push", "x"), ("pop", "a"), ret)),
            ((("set", "a", 1), ("copy", "a", "a"), ret), None),
            # a chain, again till none is
            ((("set", "b", 1), ("copy", "c", "b"), ("copy", "d", "c"), ("plus", "e", "d"), ret), (ret,)),
            # an ask looks at its numbers, its answer puts to a, a fault doesn't
            ((("set", "a", 1), ("set", "b", 1), ("set", "c", 1), ("ask", "lib", "get", 2, 4), ret),
             (("set", "a", 1), ("set", "b", 1), ("ask", "lib", "get", 2, 3), ret)),
            ((("set", "a", 1), ("ask", "lib", "get", 0, 2), ret), None),
            ((("set", "a", 1), ("ask", "lib", "get", 0, 3), ret, ("fail", "lost")),
             (("ask", "lib", "get", 0, 2), ret, ("fail", "lost"))),
            ((("set", "b", 1), ("ask", "lib", "get", 0, 3), ("out", "b"), ret), None),
            # what looks at itself on a round
            ((("pick", (("a", 1), ("b", 3))), ("plus", "b", "a"), ("go", 0), ret), None),
            # on one way it is, on the other it isn't
            ((("set", "b", 1), ("pick", (("a", 2), ("b", 3))), ("out", "b"), ret), None),
            # to which no way leads
            ((ret, ("set", "a", 1), ("set", "b", 2), ret), (ret, ("set", "a", 1), ret)),
        ):
            self.assertEqual(code_of(code, "dead"), code if right is None else right, code)

    def test_behind_the_last(self):
        code = (("pick", (("a", 1), ("b", 2))), ("set", "a", 1), ("set", "b", 2))
        self.assertEqual(code_of(code, "dead"), (("pick", (("a", 1), ("b", 1))), END))
        code = (("go", 1), ("set", "a", 1))
        self.assertEqual(code_of(code, "dead"), (("go", 1), END))
        code = (("ask", "lib", "get", 0, 2), ("ret",), ("set", "a", 1))
        self.assertEqual(code_of(code, "dead"), (("ask", "lib", "get", 0, 2), ("ret",), END))


class Known(unittest.TestCase):
    def knows(self, code, right, many=0, **named):
        self.assertEqual(code_of(code, "known", many, **named), code if right is None else right, code)

    def test_what_is_left_out(self):
        ret = ("ret",)
        self.knows((("set", "a", 0), ret), (ret,))
        self.knows((("set", "a", 0), ret), None, many=1)
        self.knows((("set", "a", 3), ("set", "a", 3), ret), (("set", "a", 3), ret))
        self.knows((("set", "a", 3), ("set", "a", 4), ret), None)
        self.knows((("copy", "a", "a"), ("copy", "x", "x"), ret), (ret,), many=1)
        self.knows((("copy", "a", "b"), ret), (ret,))
        self.knows((("copy", "a", "b"), ret), (("set", "a", 0), ret), many=1)
        self.knows((("copy", "a", "b"), ret), None, many=2)
        self.knows((("times", "a", 1), ("times", "x", 1), ret), (ret,), many=1)
        self.knows((("plus", "a", "b"), ("plus", "x", "b"), ret), (ret,), many=1)
        self.knows((("plus", "b", "a"), ret), None, many=1)
        self.knows((("plus", "a", "x"), ("times", "a", 2), ret), None, many=1)

    def test_what_comes_to_be_set(self):
        ret = ("ret",)
        self.knows((("set", "b", 5), ("times", "b", 20), ("set", "c", 4), ("plus", "c", "b"), ("copy", "a", "c"), ret),
                   (("set", "b", 5), ("set", "b", 3), ("set", "c", 4), ("set", "c", 7), ("set", "a", 7), ret))
        self.knows((("set", "b", 5), ("plus", "b", "b"), ("copy", "x", "b"), ret),
                   (("set", "b", 5), ("set", "b", 10), ("set", "x", 10), ret))
        self.knows((("times", "a", 0), ("copy", "b", "a"), ret), (("set", "a", 0), ret), many=1)
        self.knows((("times", "x", 0), ("plus", "a", "x"), ret), (("set", "x", 0), ("plus", "a", "x"), ret))
        # a known 0 stays so, times whatever
        self.knows((("times", "b", 7), ret), (ret,))
        self.knows((("set", "b", 1), ("plus", "b", "b"), ret), (("set", "b", 1), ("set", "b", 0), ret), prime=2)

    def test_what_is_not_known(self):
        ret = ("ret",)
        # cells are kept from call to call
        self.knows((("set", "x", 3), ("copy", "a", "x"), ("set", "x", 3), ret), None)
        for step in (("take", "b"), ("pop", "b")):
            self.knows((("set", "b", 3), ("push", "b"), step, ("copy", "a", "b"), ret), None)
        # numbers of a call
        for many in range(4):
            code = tuple(("copy", "h", place) for place in "abc") + (ret,)
            self.knows(code, tuple(("copy", "h", place) for place in "abc"[:many]) + (("set", "h", 0),) * (0 < many < 3) + (ret,), many=many)

    def test_asks(self):
        ret = ("ret",)
        # the answer isn't known, behind a fault it is what it was
        ahead = (("set", "a", 3), ("ask", "lib", "get", 0, 4))
        self.knows((*ahead, ("copy", "b", "a"), ret, ("copy", "c", "a"), ret), (*ahead, ("copy", "b", "a"), ret, ("set", "c", 3), ret))
        # where both lead together it isn't known
        ahead = (("set", "a", 3), ("ask", "lib", "get", 0, 2))
        self.knows((*ahead, ("copy", "b", "a"), ret), None)
        # others stay
        ahead = (("set", "b", 3), ("ask", "lib", "get", 0, 2))
        self.knows((*ahead, ("copy", "a", "b"), ret), (*ahead, ("set", "a", 3), ret))

    def test_ways_that_lead_together(self):
        ret = ("ret",)

        def code(one, other, behind):
            return (("pick", (("a", 1), ("b", 3))), ("set", "b", one), ("go", 4), ("set", "b", other), behind, ret)
        self.knows(code(3, 3, ("copy", "a", "b")), code(3, 3, ("set", "a", 3)))
        self.knows(code(3, 4, ("copy", "a", "b")), None)
        # what is set to what it is already is left out
        self.knows(code(3, 0, ("copy", "a", "b")), (("pick", (("a", 1), ("b", 3))), ("set", "b", 3), ("go", 3), ("copy", "a", "b"), ret))

    def test_rounds(self):
        ret = ("ret",)
        # it stays so, whatever round is gone
        self.knows((("set", "b", 3), ("pick", (("a", 2), ("b", 4))), ("copy", "c", "b"), ("go", 1), ("copy", "a", "b"), ret),
                   (("set", "b", 3), ("pick", (("a", 2), ("b", 4))), ("set", "c", 3), ("go", 1), ("set", "a", 3), ret))
        self.knows((("set", "b", 3), ("pick", (("a", 2), ("b", 5))), ("set", "c", 3), ("copy", "b", "c"), ("go", 1), ("copy", "a", "b"), ret),
                   (("set", "b", 3), ("pick", (("a", 2), ("b", 4))), ("set", "c", 3), ("go", 1), ("set", "a", 3), ret))
        # on the second round it is another one
        self.knows((("set", "b", 3), ("pick", (("a", 2), ("b", 4))), ("times", "b", 2), ("go", 1), ("copy", "a", "b"), ret), None)
        # to the first one
        self.knows((("copy", "a", "b"), ("set", "b", 1), ("pick", (("a", 0), ("b", 3))), ret), None)
        self.knows((("copy", "a", "b"), ("set", "b", 0), ("pick", (("a", 0), ("b", 3))), ret), (("pick", (("a", 0), ("b", 1))), ret))

    def test_to_which_no_way_leads(self):
        ret = ("ret",)
        # they count for nothing, and stay as they are
        self.knows((("set", "b", 3), ("go", 3), ("set", "b", 4), ("copy", "a", "b"), ret),
                   (("set", "b", 3), ("go", 3), ("set", "b", 4), ("set", "a", 3), ret))
        self.knows((ret, ("times", "a", 1), ("copy", "a", "a"), ("plus", "a", "b"), ("set", "h", 0)), None)
        # but they lead to what is left
        self.knows((("times", "a", 1), ("times", "b", 1), ret, ("go", 1)), (ret, ("go", 0)))

    def test_behind_the_last(self):
        self.knows((("pick", (("a", 1), ("b", 2))), ("fail", "lost"), ("set", "b", 0)), (("pick", (("a", 1), ("b", 2))), ("fail", "lost"), END))
        self.knows((("out", "a"), ("set", "b", 0)), (("out", "a"),))


class Whole(unittest.TestCase):
    def test_each_sort(self):
        chance = some(124)
        checks = Passed()
        for word in PASSES:
            checks.passes(coded_with(*CODE), word, chance)
            checks.passes(whole_code(), word, chance)


if __name__ == "__main__":
    unittest.main()
