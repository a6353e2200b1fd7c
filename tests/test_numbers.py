"""[1.1]: primes, numbers, names and places."""

import unittest

from onetrace.numbers import PRIME, inverse, is_name, is_number, is_place, is_prime
from things import THINGS, WRONG, kept

KINDS = [None, True, False, "", "7", "2", [], [2], (), (2,), {}, {2: 2}, "x", WRONG[-1], WRONG[-2], WRONG[-3]]
LETTERS = "abcdefghijklmnopqrstuvwxyz"
SIGNS = [chr(code) for code in range(32, 127)] + ["\n"]


class Primes(unittest.TestCase):
    def test_prime_that_is_taken(self):
        self.assertEqual(PRIME, 97)
        self.assertTrue(is_prime(PRIME))

    def test_each_number(self):
        right = [n for n in range(2, 998) if all(n % k for k in range(2, n))]
        self.assertEqual(right[:4] + right[-2:], [2, 3, 5, 7, 991, 997])
        self.assertEqual([n for n in range(-1100, 1100) if is_prime(n)], right)

    def test_edges(self):
        for n in (2, 997):
            self.assertIs(is_prime(n), True)
        for n in (1, 0, -1, -2, -97, 998, 1009, 10 ** 9 + 7, -10 ** 9, 961, 841, 4, 9, 10 ** 5000):
            self.assertIs(is_prime(n), False)

    def test_anything(self):
        for thing in KINDS:
            self.assertIs(kept(is_prime, thing), False)

    def test_by_name(self):
        self.assertIs(is_prime(thing=97), True)


class Numbers(unittest.TestCase):
    def test_edges(self):
        for p in (2, 3, 97, 997):
            for n in (0, 1, p - 1):
                self.assertIs(is_number(n, p), True)
            for n in (-1, -p, p, p + 1, 10 ** 9, -10 ** 9):
                self.assertIs(is_number(n, p), False)

    def test_anything(self):
        for thing in KINDS:
            self.assertIs(kept(is_number, thing, 97), False)

    def test_by_name(self):
        self.assertIs(is_number(thing=96, p=97), True)
        self.assertIs(is_number(p=97, thing=97), False)

    def test_inverse(self):
        for p in (2, 3, 5, 7, 97, 101, 997):
            for n in range(1, p):
                other = inverse(n, p)
                self.assertTrue(is_number(other, p))
                self.assertEqual(n * other % p, 1)
        self.assertEqual(inverse(n=3, p=7), 5)


class Names(unittest.TestCase):
    def test_lengths(self):
        for many in (1, 2, 7, 8):
            self.assertIs(is_name("z" * many), True)
        for many in (0, 9, 40, 1000):
            self.assertIs(is_name("z" * many), False)

    def test_signs(self):
        for sign in SIGNS:
            right = sign in LETTERS
            for text in (sign, sign + "a", "a" + sign, "a" + sign + "b"):
                self.assertIs(is_name(text), right, text)

    def test_anything(self):
        for thing in KINDS:
            self.assertIs(kept(is_name, thing), thing == "x")
        self.assertIs(is_name(("a", "b")), False)
        self.assertIs(is_name(["a"]), False)

    def test_by_name(self):
        self.assertIs(is_name(thing="lib"), True)


class Places(unittest.TestCase):
    def test_lengths(self):
        for many in (1, 8, 9, 39, 40):
            self.assertIs(is_place("z" * many), True)
            self.assertIs(is_place("z" + "." * (many - 1)), True)
        for many in (0, 41, 1000):
            self.assertIs(is_place("z" * many), False)

    def test_signs(self):
        for sign in SIGNS:
            self.assertIs(is_place(sign), sign in LETTERS, sign)
            self.assertIs(is_place(sign + "a"), sign in LETTERS, sign)
            right = sign in LETTERS + "0123456789."
            for text in ("a" + sign, "a" + sign + "b"):
                self.assertIs(is_place(text), right, text)

    def test_anything(self):
        for thing in THINGS:
            right = thing in ("x", "x.y", "name", "abcdefgh", "abcdefghi", "serve", "let")
            self.assertIs(kept(is_place, thing), right, thing)
        self.assertIs(is_place(("a",)), False)
        self.assertIs(is_place(["a", "b"]), False)

    def test_by_name(self):
        self.assertIs(is_place(thing="lib.v1"), True)
