"""[1.2]: forms and their texts."""

import itertools
import unittest

from onetrace.forms import (form_text, is_form, new_form, places_in, put_in, read_form, sum_of, times_of, worth_of)
from onetrace.numbers import is_place
from things import THINGS, WRONG, kept, resized, same, some, spoiled

FAR = 10 ** 9
RIGHT = [
    (0, ()), (1, ()), (96, ()), (0, (("x", 1),)), (3, (("lib.y", 1), ("x", 2))), (0, (("a", 96), ("b", 1), ("b.c", 5))),
    (5, (("z" * 40, 7),)), (0, (("a", 1), ("a.b", 2), ("a0", 3), ("aa", 4), ("b", 5))),
]


def some_form(chance, p):
    places = sorted(chance.sample(["a", "b", "c", "lib.x", "x", "x1", "y.2"], chance.randint(0, 4)))
    return chance.randrange(p), tuple((place, chance.randrange(1, p)) for place in places)


class Forms(unittest.TestCase):
    def test_right_ones(self):
        for form in RIGHT:
            self.assertIs(kept(is_form, form, 97), True, form)
            self.assertIs(is_form(thing=form, p=97), True)

    def test_anything(self):
        right = [(0, ()), (0, (("x", 1),))]
        for thing in THINGS:
            self.assertIs(kept(is_form, thing, 97), thing in right, thing)

    def test_one_thing_wrong(self):
        for form in RIGHT:
            for thing in spoiled(form, WRONG):
                self.assertIs(is_form(thing, 97), False, thing)

    def test_sizes(self):
        for thing in ((), (0,), (0, (), ()), (0, (("x",),)), (0, (("x", 1, 1),)), (0, ((),)), (0, ("x", 1)), (0, "x")):
            self.assertIs(is_form(thing, 97), False, thing)
        for form in RIGHT:
            for thing in resized(form):
                self.assertIn(is_form(thing, 97), (True, False))

    def test_numbers(self):
        for p in (2, 97, 997):
            for n in (-1, p, FAR, -FAR):
                self.assertIs(is_form((n, ()), p), False)
                self.assertIs(is_form((0, (("x", n),)), p), False)
            self.assertIs(is_form((p - 1, (("x", p - 1),)), p), True)
            self.assertIs(is_form((0, (("x", 0),)), p), False)
        self.assertIs(is_form((True, ()), 97), False)
        self.assertIs(is_form((0, (("x", True),)), 97), False)

    def test_order(self):
        terms = (("a", 1), ("b", 1), ("c", 1))
        for turned in itertools.permutations(terms):
            self.assertIs(is_form((0, turned), 97), turned == terms)
        self.assertIs(is_form((0, (("a", 1), ("a", 1))), 97), False)
        self.assertIs(is_form((0, (("a", 1), ("b", 1), ("a", 2))), 97), False)

    def test_lists(self):
        for thing in ([0, ()], (0, []), (0, [("x", 1)]), (0, (["x", 1],))):
            self.assertIs(is_form(thing, 97), False)


class Reckoning(unittest.TestCase):
    def test_new_form(self):
        self.assertEqual(kept(new_form, 3, [], 97), (3, ()))
        self.assertEqual(kept(new_form, -1, [("x", -1)], 97), (96, (("x", 96),)))
        self.assertEqual(kept(new_form, 97, [("x", 97)], 97), (0, ()))
        self.assertEqual(kept(new_form, 0, [("y", 2), ("x", 1), ("y", 3)], 97), (0, (("x", 1), ("y", 5))))
        self.assertEqual(kept(new_form, 0, [("y", 2), ("x", 1), ("y", 95)], 97), (0, (("x", 1),)))
        self.assertEqual(kept(new_form, 0, [("y", 96), ("y", 1), ("y", 1)], 97), (0, (("y", 1),)))
        self.assertEqual(new_form(n=FAR, pairs=[("x", -FAR), ("y", FAR)], p=7),
                         (FAR % 7, (("x", -FAR % 7), ("y", FAR % 7))))
        self.assertEqual(new_form(-FAR, [("x", 0)], 997), (-FAR % 997, ()))

    def test_new_form_is_a_form(self):
        chance = some(1)
        for _ in range(300):
            p = chance.choice((2, 3, 97, 997))
            pairs = [(chance.choice("abc"), chance.randint(-FAR, FAR)) for _ in range(chance.randint(0, 6))]
            n = chance.randint(-FAR, FAR)
            form = kept(new_form, n, pairs, p)
            self.assertTrue(is_form(form, p))
            worths = {place: chance.randrange(p) for place in "abc"}
            self.assertEqual(worth_of(form, worths, p), (n + sum(k * worths[place] for place, k in pairs)) % p)

    def test_sum_and_times(self):
        one = (3, (("a", 1), ("b", 96)))
        other = (95, (("b", 1), ("c", 2)))
        self.assertEqual(kept(sum_of, one, other, 97), (1, (("a", 1), ("c", 2))))
        self.assertEqual(sum_of(a=one, b=(0, ()), p=97), one)
        self.assertEqual(kept(times_of, one, 2, 97), (6, (("a", 2), ("b", 95))))
        self.assertEqual(times_of(a=one, n=-1, p=97), (94, (("a", 96), ("b", 1))))
        for n in (0, 97, -97, 97 * 10 ** 7):
            self.assertEqual(times_of(one, n, 97), (0, ()))
        self.assertEqual(times_of(one, FAR, 97), (3 * FAR % 97, (("a", FAR % 97), ("b", -FAR % 97))))
        self.assertEqual(times_of(one, -FAR, 97), (-3 * FAR % 97, (("a", -FAR % 97), ("b", FAR % 97))))

    def test_worths_go_along(self):
        chance = some(2)
        places = ["a", "b", "c", "lib.x", "x", "x1", "y.2"]
        for _ in range(300):
            p = chance.choice((2, 3, 97, 997))
            one, other = some_form(chance, p), some_form(chance, p)
            n = chance.randint(-FAR, FAR)
            worths = {place: chance.randrange(p) for place in places}
            both, many = sum_of(one, other, p), times_of(one, n, p)
            self.assertTrue(is_form(both, p) and is_form(many, p))
            self.assertEqual(worth_of(both, worths, p), (worth_of(one, worths, p) + worth_of(other, worths, p)) % p)
            self.assertEqual(worth_of(many, worths, p), worth_of(one, worths, p) * n % p)
            forms = {place: some_form(chance, p) for place in chance.sample(places, 3)}
            form = kept(put_in, one, forms, p)
            self.assertTrue(is_form(form, p))
            inner = {place: worth_of(forms[place], worths, p) if place in forms else worths[place] for place in places}
            self.assertEqual(worth_of(form, worths, p), worth_of(one, inner, p))

    def test_put_in_at_once(self):
        form = (1, (("x", 2), ("y", 3)))
        turned = {"x": (0, (("y", 1),)), "y": (0, (("x", 1),))}
        self.assertEqual(kept(put_in, form, turned, 97), (1, (("x", 3), ("y", 2))))
        self.assertEqual(put_in(form=form, forms={"x": (4, (("x", 1), ("y", 96)))}, p=97),
                         (9, (("x", 2), ("y", 1))))
        self.assertEqual(put_in(form, {"x": (0, ())}, 97), (1, (("y", 3),)))
        self.assertEqual(put_in(form, {"z": (5, ())}, 97), form)
        self.assertEqual(put_in(form, {}, 97), form)
        self.assertEqual(put_in((0, (("x", 1), ("y", 1))), {"x": (0, (("y", 96),))}, 97), (0, ()))

    def test_worth_of(self):
        form = (3, (("lib.y", 1), ("x", 2)))
        self.assertEqual(kept(worth_of, form, {"lib.y": 5, "x": 96}, 97), 6)
        self.assertEqual(kept(worth_of, form, {"x": 50}, 97), 6)
        self.assertEqual(worth_of(form, {}, 97), 3)
        self.assertEqual(worth_of(form=form, worths={"z": 4}, p=97), 3)

    def test_places_in(self):
        self.assertEqual(kept(places_in, (3, (("lib.y", 1), ("x", 2)))), ("lib.y", "x"))
        self.assertEqual(places_in(form=(3, ())), ())


class Texts(unittest.TestCase):
    def test_told(self):
        told = {
            "3+lib.y+2x": (3, (("lib.y", 1), ("x", 2))), "x": (0, (("x", 1),)), "0": (0, ()), "1": (1, ()),
            "96": (96, ()), "96x": (0, (("x", 96),)), "1+x": (1, (("x", 1),)), "2x2+2x22": (0, (("x2", 2), ("x22", 2))),
            "a.+b..": (0, (("a.", 1), ("b..", 1))),
        }
        for text, form in told.items():
            self.assertEqual(form_text(form=form), text)
            self.assertTrue(same(kept(read_form, text, 97), form))
            self.assertEqual(read_form(text=text, p=97), form)

    def test_each_way_about(self):
        chance = some(3)
        for form in RIGHT:
            self.assertEqual(read_form(kept(form_text, form), 97), form)
        for _ in range(300):
            p = chance.choice((2, 3, 97, 997))
            form = some_form(chance, p)
            self.assertTrue(same(read_form(form_text(form), p), form))

    def test_all_short_texts(self):
        told = {}
        for n in range(3):
            for a, b in itertools.product(range(3), range(3)):
                form = (n, tuple((place, k) for place, k in (("a", a), ("b", b)) if k))
                told[form_text(form)] = form
        self.assertEqual(len(told), 27)
        for many in range(7):
            for signs in itertools.product("0123ab+", repeat=many):
                text = "".join(signs)
                form = read_form(text, 3)
                if form is not None and set(p for p, _ in form[1]) <= {"a", "b"}:
                    self.assertEqual(told.get(text), form, text)
                if text in told:
                    self.assertEqual(form, told[text])

    def test_none(self):
        for text in (
            "", " ", "+", "++", "x+", "+x", "3+", "+3", "x++y", "3++x", "y+x", "x+x", "x+2x", "a+b+a", "x+3", "3+4",
            "3+x+4", "0+x", "1x", "0x", "3+0x", "3+1x", "03", "00", "03+x", "3+02x", "02x", "97", "98+x", "97x",
            "3+97x", "100", "999999999", " x", "x ", "3 +x", "3+ x", "2 x", "-1", "-x", "+1", "x-y", "2*x", "x2+x1",
            "X", "2X", "_x", "x_", ".x", "2.x", "x\n", "\nx", "3\n", "3,x", "1_0", "3+x y", "x+y+",
            "z" * 41, "2" + "z" * 41, "0" * 5000, "9" * 5000, "9" * 5000 + "x", "x+" * 5000, "1" + "0" * 9000 + "+x",
        ):
            self.assertIsNone(read_form(text, 97), text[:20])

    def test_by_the_prime(self):
        self.assertIsNone(read_form("2", 2))
        self.assertIsNone(read_form("2x", 2))
        self.assertEqual(read_form("1+x", 2), (1, (("x", 1),)))
        self.assertEqual(read_form("996+996x", 997), (996, (("x", 996),)))
        self.assertIsNone(read_form("997", 997))
        self.assertIsNone(read_form("997x", 997))
        self.assertIsNone(read_form("7x", 7))

    def test_things_that_are_no_texts(self):
        for thing in THINGS:
            right = isinstance(thing, str) and (is_place(thing) or thing == "0")
            self.assertIs(kept(read_form, thing, 97) is not None, right, thing)
        for thing in (["x"], ("x",), (0, ()), 3, True, {"x": 1}):
            self.assertIsNone(read_form(thing, 97))
