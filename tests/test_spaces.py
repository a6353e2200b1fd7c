"""[2.1]: rows and what follows from them."""

import itertools
import unittest

from onetrace.spaces import (
    common, follows, is_rows, led_back, less_terms, nulls_of, product_of, reduced, row_of, terms_of, terms_product, without)
from things import THINGS, WRONG, kept, some, spoiled


def all_rows(width, p):
    return list(itertools.product(range(p), repeat=width))


def span(rows, width, p):
    """All that follows from rows, each sum of multiples reckoned."""
    found = {(0,) * width}
    for row in rows:
        found = {tuple((a + k * b) % p for a, b in zip(other, row)) for other in found for k in range(p)}
    return found


def some_rows(chance, many, width, p):
    return tuple(tuple(chance.choice((0, chance.randrange(p))) for _ in range(width)) for _ in range(many))


def small_cases():
    chance = some(4)
    for p, width in ((2, 1), (2, 3), (2, 5), (3, 1), (3, 3), (5, 2), (7, 2)):
        for many in range(5):
            for _ in range(6):
                yield some_rows(chance, many, width, p), width, p
    yield (), 310, 997


class Rows(unittest.TestCase):
    def test_right_ones(self):
        self.assertIs(kept(is_rows, (), 3, 97), True)
        self.assertIs(kept(is_rows, ((0, 1, 96),), 3, 97), True)
        self.assertIs(is_rows(thing=((0,), (0,)), width=1, p=2), True)
        self.assertIs(is_rows(((0,) * 310, (96,) * 310), 310, 97), True)

    def test_anything(self):
        for thing in THINGS:
            self.assertIs(kept(is_rows, thing, 2, 97), thing in ((), ((0, 1), (1, 0))), thing)

    def test_one_thing_wrong(self):
        for thing in spoiled(((0, 1, 96), (5, 0, 0)), WRONG):
            self.assertIs(is_rows(thing, 3, 97), False, thing)

    def test_widths(self):
        for rows in (((0, 1),), ((0, 1, 2, 3),), ((0, 1, 2), (0, 1)), ((),), ((0,) * 310,)):
            self.assertIs(is_rows(rows, 3, 97), False)

    def test_numbers(self):
        for n in (97, 98, -1, True, False, None, "0", (0,)):
            self.assertIs(is_rows(((0, n),), 2, 97), False)
        self.assertIs(is_rows(((2,),), 1, 2), False)

    def test_lists(self):
        for thing in ([], [(0, 1)], ([0, 1],), ((0, 1), [0, 1])):
            self.assertIs(is_rows(thing, 2, 97), False)


class Reduced(unittest.TestCase):
    def look_at(self, rows, width, p):
        """Whether rows are reduced, read off the document."""
        self.assertTrue(is_rows(rows, width, p))
        places = []
        for row in rows:
            firsts = [at for at, n in enumerate(row) if n != 0]
            self.assertTrue(firsts)
            places.append(firsts[0])
            self.assertEqual([other[firsts[0]] for other in rows], [1 if other == row else 0 for other in rows])
        self.assertEqual(places, sorted(set(places)))

    def test_told(self):
        self.assertEqual(reduced(rows=(), p=97), ())
        self.assertEqual(reduced(((0, 0), (0, 0)), 97), ())
        self.assertEqual(reduced(((0, 2), (3, 1)), 97), ((1, 0), (0, 1)))
        self.assertEqual(reduced(((2, 4), (1, 2)), 97), ((1, 2),))
        self.assertEqual(reduced(((0, 2, 4), (3, 1, 5)), 7), ((1, 0, 1), (0, 1, 2)))

    def test_small_ones(self):
        for rows, width, p in small_cases():
            found = kept(reduced, rows, p)
            self.look_at(found, width, p)
            if width < 9:
                self.assertEqual(span(found, width, p), span(rows, width, p))

    def test_in_any_order(self):
        chance = some(5)
        for _ in range(40):
            p = chance.choice((2, 3, 97))
            rows = some_rows(chance, 4, 5, p)
            whole = reduced(rows, p)
            for turned in itertools.permutations(rows):
                self.assertEqual(reduced(turned, p), whole)
            double = tuple(tuple((a + 2 * b) % p for a, b in zip(rows[0], row)) for row in rows)
            self.assertEqual(reduced(rows + double + rows, p), whole)
            self.assertEqual(reduced(whole, p), whole)

    def test_wide(self):
        chance = some(6)
        for p in (2, 97, 997):
            rows = some_rows(chance, 12, 310, p)
            found = reduced(rows + rows[::-1] + ((0,) * 310,), p)
            self.look_at(found, 310, p)
            self.assertTrue(all(follows(found, row, p) for row in rows))
            self.assertTrue(all(follows(rows, row, p) for row in found))

    def test_width_one(self):
        self.assertEqual(reduced(((0,), (5,), (6,)), 7), ((1,),))
        self.assertEqual(reduced(((0,),), 7), ())


class Following(unittest.TestCase):
    def test_small_ones(self):
        for rows, width, p in small_cases():
            if width > 9:
                continue
            right = span(rows, width, p)
            for row in all_rows(width, p):
                self.assertIs(follows(rows, row, p), row in right)

    def test_told(self):
        self.assertIs(kept(follows, (), (0, 0), 97), True)
        self.assertIs(kept(follows, (), (0, 1), 97), False)
        self.assertIs(follows(rows=((1, 2), (0, 0)), row=(50, 3), p=97), True)
        self.assertIs(follows(rows=((1, 2), (0, 0)), row=(50, 4), p=97), False)
        self.assertIs(follows(((1,) * 310,), (96,) * 310, 97), True)
        self.assertIs(follows(((1,) * 310,), (96,) * 309 + (95,), 97), False)

    def test_product_of(self):
        self.assertEqual(kept(product_of, (1, 2, 3), (4, 5, 6), 97), 32)
        self.assertEqual(product_of(row=(96, 1), other=(1, 1), p=97), 0)
        self.assertEqual(product_of((5,), (5,), 7), 4)
        self.assertEqual(product_of((996,) * 310, (996,) * 310, 997), 310)


class Spaces(unittest.TestCase):
    def test_nulls(self):
        for rows, width, p in small_cases():
            if width > 9:
                continue
            found = kept(nulls_of, rows, width, p)
            self.assertEqual(found, reduced(found, p))
            right = {row for row in all_rows(width, p) if all(product_of(row, other, p) == 0 for other in rows)}
            self.assertEqual(span(found, width, p), right)

    def test_nulls_of_no_rows(self):
        for width in (1, 2, 310):
            whole = tuple(tuple(int(at == free) for at in range(width)) for free in range(width))
            self.assertEqual(nulls_of(rows=(), width=width, p=97), whole)
            self.assertEqual(nulls_of(whole, width, 97), ())
        self.assertEqual(nulls_of(((0, 0),), 2, 97), ((1, 0), (0, 1)))

    def test_nulls_wide(self):
        rows = some_rows(some(7), 9, 310, 97)
        found = nulls_of(rows, 310, 97)
        self.assertEqual(len(found) + len(reduced(rows, 97)), 310)
        self.assertTrue(all(product_of(row, other, 97) == 0 for row in rows for other in found))
        self.assertEqual(nulls_of(found, 310, 97), reduced(rows, 97))

    def test_common(self):
        chance = some(8)
        for rows, width, p in small_cases():
            if width > 9:
                continue
            other = some_rows(chance, chance.randint(0, 3), width, p)
            found = kept(common, rows, other, width, p)
            self.assertEqual(found, reduced(found, p))
            self.assertEqual(span(found, width, p), span(rows, width, p) & span(other, width, p))
        self.assertEqual(common(one=((1, 0), (0, 1)), other=((3, 6),), width=2, p=7), ((1, 2),))
        self.assertEqual(common((), ((1, 2),), 2, 7), ())
        self.assertEqual(common(((1, 2),), (), 2, 7), ())

    def test_common_wide(self):
        chance = some(9)
        shared = some_rows(chance, 3, 310, 97)
        one = shared + some_rows(chance, 3, 310, 97)
        other = some_rows(chance, 3, 310, 97) + shared
        self.assertEqual(common(one, other, 310, 97), reduced(shared, 97))

    def test_without(self):
        for rows, width, p in small_cases():
            if width > 9:
                continue
            whole = span(rows, width, p)
            for many in range(width):
                for columns in itertools.combinations(range(width), many):
                    found = kept(without, rows, columns, width, p)
                    self.assertEqual(found, reduced(found, p))
                    rest = [at for at in range(width) if at not in columns]
                    right = {tuple(row[at] for at in rest) for row in whole if all(row[at] == 0 for at in columns)}
                    self.assertEqual(span(found, len(rest), p), right)

    def test_without_told(self):
        rows = ((1, 0, 2), (0, 1, 3))
        self.assertEqual(without(rows=rows, columns=(), width=3, p=7), rows)
        self.assertEqual(without(rows, (0,), 3, 7), ((1, 3),))
        self.assertEqual(without(rows, (1,), 3, 7), ((1, 2),))
        self.assertEqual(without(rows, (2,), 3, 7), ((1, 4),))
        self.assertEqual(without(rows, (0, 1), 3, 7), ())
        self.assertEqual(without(((1, 1, 0), (0, 0, 5)), (0, 1), 3, 7), ((1,),))
        self.assertEqual(without((), (1,), 3, 7), ())

    def test_without_wide(self):
        rows = some_rows(some(10), 6, 310, 97)
        self.assertEqual(without(rows, (), 310, 97), reduced(rows, 97))
        self.assertEqual(without(rows, tuple(range(309)), 310, 97), ())
        one = ((0,) * 309 + (5,),)
        self.assertEqual(without(rows + one, tuple(range(309)), 310, 97), ((1,),))
        self.assertEqual(without(one, tuple(range(1, 310)), 310, 97), ())

    def test_led_back(self):
        self.assertEqual(kept(led_back, (1, 2), ((1, 0, 3), (0, 1, 96)), 97), (1, 2, 1))
        self.assertEqual(led_back(row=(5,), table=((3, 4),), p=7), (1, 6))
        self.assertEqual(led_back((0, 0), ((1,), (2,)), 7), (0,))
        table = tuple((k,) * 310 for k in range(310))
        self.assertEqual(led_back((1,) * 310, table, 997), (sum(range(310)) % 997,) * 310)

    def test_led_back_goes_with_products(self):
        chance = some(11)
        for _ in range(100):
            p = chance.choice((2, 97))
            row = some_rows(chance, 1, 4, p)[0]
            table = some_rows(chance, 4, 3, p)
            other = some_rows(chance, 1, 3, p)[0]
            put = tuple(product_of(line, other, p) for line in table)
            self.assertEqual(product_of(led_back(row, table, p), other, p), product_of(row, put, p))


class Terms(unittest.TestCase):
    def test_as_rows(self):
        chance = some(12)
        for _ in range(100):
            p = chance.choice((2, 97, 997))
            row, other = some_rows(chance, 2, 6, p)
            k = chance.randrange(p)
            self.assertEqual(row_of(kept(terms_of, row), 6), row)
            self.assertNotIn(0, terms_of(row).values())
            less = kept(less_terms, terms_of(row), terms_of(other), k, p)
            self.assertEqual(less, terms_of([(n - k * m) % p for n, m in zip(row, other)]))
            self.assertEqual(kept(terms_product, terms_of(row), other, p), product_of(row, other, p))
        self.assertEqual(row_of({}, 3), (0, 0, 0))
