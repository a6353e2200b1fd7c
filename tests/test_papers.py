"""[7.1]: papers."""

import copy
import unittest

from flowmade import mixed, some_kin, twin_of
from onetrace.finding import found
from onetrace.flows import Flow
from onetrace.papers import is_paper
from plainpapers import plain_is_paper, rewritten_rows, stops_of
from things import THINGS, WRONG, kept, nested, some, spoiled

X = (0, (("x", 1),))
# add: x is that much more, told; then left: ask lib get, done or fail; right: take y, done with both
STEPS = (
    ("serve", (("add", ("y",), 1), ("get", (), 3))),
    ("move", (("x", (0, (("x", 1), ("y", 1)))),), 2),
    ("out", X, 4),
    ("done", X),
    ("pick", (("left", 5), ("right", 6))),
    ("ask", "lib", "get", (X, (2, (("y", 3),))), "y", 8, 7),
    ("take", "y", 8),
    ("fail", "lost"),
    ("done", (0, (("x", 1), ("y", 1)))),
)
ONE = Flow(("x", "y"), STEPS)
# the same: d is twice x, n is y, t is never told; steps in another order, done twice, moves between
OTHER_STEPS = [
    ("serve", (("add", ("n",), 4), ("get", (), 12))),
    ("fail", "lost"),
    ("take", "t", 11),
    ("ask", "lib", "get", ((0, (("d", 49),)), (2, (("n", 3),))), "n", 10, 1),
    ("move", (("d", (0, (("d", 1), ("n", 1)))),), 5),
    ("move", (("d", (0, (("d", 1), ("n", 1)))), ("t", (5, (("t", 2),)))), 6),
    ("out", (0, (("d", 49),)), 7),
    ("pick", (("left", 3), ("right", 2))),
    ("done", (0, (("d", 49),))),
    ("done", (0, (("d", 49), ("n", 1)))),
    ("done", (0, (("d", 49), ("n", 1)))),
    ("move", (("n", (0, (("t", 1),))), ("t", (1, ()))), 9),
    ("move", (), 8),
]
OTHER = Flow(("t", "d", "n"), tuple(OTHER_STEPS))
# 1, x, y, t, d, n: twice x is d, y is n
ROWS = ((0, 2, 0, 0, 96, 0), (0, 0, 1, 0, 0, 96))
PAIRS = [(0, 0), (2, 6), (3, 8), (4, 7), (5, 3), (6, 2), (7, 1), (8, 9), (8, 10)]
PAPER = {pair: ROWS for pair in PAIRS}
NEVER = (1, 0, 0, 0, 0, 0)


def other_with(at, step):
    return Flow(OTHER.places(), (*OTHER_STEPS[:at], step, *OTHER_STEPS[at + 1:]))


def with_rows(pair, *rows):
    return {**PAPER, pair: rows}


class Right(unittest.TestCase):
    def stands(self, paper, one=ONE, other=OTHER):
        self.assertIs(kept(is_paper, one, other, paper), True)

    def test_by_hand(self):
        self.stands(PAPER)
        self.assertIs(is_paper(one=ONE, other=OTHER, thing=PAPER), True)

    def test_a_flow_and_itself(self):
        rows = ((0, 1, 0, 96, 0), (0, 0, 1, 0, 96))
        self.stands({(at, at): rows for at in (0, 2, 3, 4, 5, 6, 7, 8)}, ONE, ONE)
        # without places there are no rows
        flow = Flow((), (("serve", (("go", (), 1),)), ("done", (4, ()))))
        self.stands({(0, 0): (), (1, 1): ()}, flow, flow)

    def test_rows_told_otherwise(self):
        chance = some(50)
        for _ in range(50):
            self.stands({pair: rewritten_rows(chance, ROWS, 97) for pair in chance.sample(PAIRS, len(PAIRS))})
        self.stands({pair: ROWS + ((0,) * 6,) + ROWS for pair in PAIRS})
        self.stands({pair: ((0, 2, 1, 0, 96, 96), ROWS[1]) for pair in PAIRS})

    def test_more_rows(self):
        # where both come from a take t is 1, and a row that holds at the begin only holds there
        self.stands(with_rows((8, 9), *ROWS, (1, 0, 0, 96, 0, 0)))

    def test_fewer_rows(self):
        # a step needs no rows but those that it leads on
        self.stands(with_rows((6, 2), ROWS[0]))
        flow = Flow(("x",), (("serve", (("go", ("x",), 1),)), ("out", X, 2), ("fail", "no")))
        rows = ((0, 1, 96),)
        self.stands({(0, 0): (), (1, 1): rows, (2, 2): ()}, flow, flow)
        self.stands({(0, 0): rows, (1, 1): rows, (2, 2): rows}, flow, flow)
        self.assertFalse(is_paper(flow, flow, {(0, 0): (), (1, 1): (), (2, 2): ()}))
        self.assertFalse(is_paper(flow, flow, {(0, 0): rows, (1, 1): rows, (2, 2): ()}))

    def test_more_keys(self):
        # of those from which (1, 0, .., 0) follows nothing else is asked
        for rows in ((NEVER,), (NEVER, *ROWS), ((5, 0, 0, 0, 0, 0),), ((1, 1, 0, 0, 0, 0), (0, 1, 0, 0, 0, 0)),
                     ((3, 2, 0, 0, 96, 0), ROWS[0]), (ROWS[1], (1, 0, 5, 0, 0, 92))):
            for pair in ((0, 1), (2, 0), (3, 3), (7, 6), (4, 2), (5, 9)):
                self.stands({**PAPER, pair: rows})
        # others are looked at
        self.stands({**PAPER, (8, 8): (*ROWS, (0, 0, 1, 0, 0, 0))})
        self.stands({**PAPER, (3, 9): (*ROWS, (0, 0, 0, 0, 0, 7))})
        for rows in ((), ROWS, ((0, 1, 0, 0, 0, 0),), ((1, 1, 0, 0, 0, 0),), ((1, 0, 0, 0, 0, 96),)):
            self.assertFalse(is_paper(ONE, OTHER, {**PAPER, (8, 8): rows}), rows)

    def test_a_key_that_is_never_come_to(self):
        paper = dict(PAPER)
        paper[0, 0] = (*ROWS, NEVER)
        self.assertFalse(is_paper(ONE, OTHER, paper))

    def test_great_primes_and_small_ones(self):
        for p in (2, 3, 997):
            flow = Flow(("x",), (("serve", (("go", ("x",), 1),)), ("out", X, 2), ("done", (1, (("x", p - 1),)))), prime=p)
            rows = ((0, 1, p - 1),)
            self.stands({(0, 0): rows, (1, 1): rows, (2, 2): rows}, flow, flow)


class Wrong(unittest.TestCase):
    def falls(self, paper, one=ONE, other=OTHER):
        self.assertIs(kept(is_paper, one, other, paper), False)

    def test_keys_that_lack(self):
        for pair in PAIRS:
            self.falls({key: rows for key, rows in PAPER.items() if key != pair})
        self.falls({})
        self.falls({(0, 0): ROWS})
        self.falls({(0, 0): ()})

    def test_the_begin(self):
        for row in (NEVER, (1, 1, 0, 0, 0, 0), (5, 0, 1, 0, 0, 96), (96, 2, 0, 0, 96, 0)):
            self.falls(with_rows((0, 0), *ROWS, row))
            self.falls({pair: (*ROWS, row) for pair in PAIRS})

    def test_rows_that_lack(self):
        for pair in PAIRS:
            for rows in ((), ROWS[:1], ROWS[1:], (ROWS[0], ROWS[0]), ((0, 2, 1, 0, 96, 96),)):
                # where both are taken anew, it matters not what they were
                if pair != (6, 2) or ROWS[0] not in rows:
                    self.falls(with_rows(pair, *rows))

    def test_rows_that_are_too_much(self):
        for pair in PAIRS:
            for row in ((0, 1, 0, 0, 0, 0), (0, 0, 1, 0, 0, 0), (0, 0, 0, 1, 0, 0)):
                if (pair, row[3]) != ((0, 0), 1):
                    self.falls(with_rows(pair, *ROWS, row))

    def test_whatever_numbers_came(self):
        # a number that comes to one of both alone isn't alike whatever comes
        self.falls(PAPER, other=other_with(2, ("take", "t", 9)))
        self.falls(PAPER, other=other_with(2, ("take", "", 11)))
        self.falls(PAPER, other=other_with(3, (*OTHER_STEPS[3][:4], "t", 10, 1)))
        self.falls(PAPER, other=other_with(0, ("serve", (("add", ("t",), 4), ("get", (), 12)))))
        self.falls(PAPER, other=other_with(0, ("serve", (("add", ("",), 4), ("get", (), 12)))))
        # not even where the place that it comes to holds that number already, or no row is about it
        self.assertTrue(is_paper(ONE, other_with(2, ("take", "n", 9)), PAPER))

    def test_steps_that_do_not_go_together(self):
        d = (0, (("d", 49),))
        for at, steps in {
            0: [("serve", (("add", ("n",), 4), ("got", (), 12))), ("serve", (("add", ("n",), 4),)),
                ("serve", (("add", ("n", ""), 4), ("get", (), 12))), ("serve", (("add", (), 4), ("get", (), 12))),
                ("serve", (("add", ("n",), 4), ("get", (), 12), ("put", (), 12)))],
            1: [("fail", "los"), ("fail", "empty"), ("done", (0, ())), ("take", "t", 11)],
            2: [("fail", "lost"), ("pick", (("left", 11),)), ("out", d, 11), ("ask", "lib", "get", (), "t", 11, 11)],
            3: [("ask", "libs", "get", OTHER_STEPS[3][3], "n", 10, 1), ("ask", "lib", "got", OTHER_STEPS[3][3], "n", 10, 1),
                ("ask", "lib", "get", OTHER_STEPS[3][3][:1], "n", 10, 1), ("ask", "lib", "get", (), "n", 10, 1),
                ("ask", "lib", "get", OTHER_STEPS[3][3] + (d,), "n", 10, 1),
                ("ask", "lib", "get", OTHER_STEPS[3][3][::-1], "n", 10, 1), ("ask", "lib", "get", (d, (3, (("n", 3),))), "n", 10, 1),
                ("ask", "lib", "get", (d, (2, (("n", 4),))), "n", 10, 1), ("take", "n", 10), ("fail", "lost"),
                ("ask", "lib", "get", OTHER_STEPS[3][3], "n", 1, 10), ("ask", "lib", "get", OTHER_STEPS[3][3], "n", 10, 10)],
            6: [("out", (0, (("d", 50),)), 7), ("out", (1, (("d", 49),)), 7), ("out", (0, (("t", 49),)), 7), ("out", (0, ()), 7),
                ("out", d, 3), ("out", d, 11), ("done", d), ("fail", "lost")],
            7: [("pick", (("left", 3),)), ("pick", (("left", 2), ("right", 3))), ("pick", (("left", 3), ("right", 3))),
                ("pick", (("left", 3), ("right", 2), ("up", 2))), ("pick", (("left", 3), ("wright", 2))), ("take", "t", 3)],
            8: [("done", (0, (("d", 50),))), ("done", (1, (("d", 49),))), ("done", (0, ())), ("out", d, 8 + 1), ("fail", "lost")],
        }.items():
            for step in steps:
                self.falls(PAPER, other=other_with(at, step))

    def test_other_moves(self):
        for pairs in ((), (("d", (0, (("d", 1),))),), (("d", (1, (("d", 1), ("n", 1)))),), (("d", (0, (("d", 1), ("n", 2)))),),
                      (("d", (0, (("d", 1), ("n", 1)))), ("n", (0, ())))):
            self.falls(PAPER, other=other_with(4, ("move", pairs, 5)))
        self.falls(PAPER, other=other_with(12, ("move", (("d", (0, ())),), 8)))
        self.falls(PAPER, other=other_with(11, ("move", (("t", (1, ())),), 9)))

    def test_unlike_primes(self):
        one = Flow(("x",), (("serve", (("go", (), 1),)), ("done", X)), prime=3)
        other = Flow(("x",), (("serve", (("go", (), 1),)), ("done", X)), prime=2)
        paper = {(0, 0): ((0, 1, 1),), (1, 1): ((0, 1, 1),)}
        self.falls(paper, one, other)
        self.falls(paper, other, one)
        self.falls({(0, 0): (), (1, 1): ()}, one, other)
        self.assertTrue(is_paper(other, other, paper))

    def test_turned_about(self):
        self.falls(PAPER, OTHER, ONE)
        self.falls({(j, i): ROWS for i, j in PAIRS}, OTHER, ONE)


class Anything(unittest.TestCase):
    def falls(self, paper, one=ONE, other=OTHER):
        self.assertIs(is_paper(one, other, paper), False, paper)

    def test_no_paper(self):
        for thing in THINGS + [list(PAPER.items()), tuple(PAPER.items()), list(PAPER), "PAPER", [PAPER], (PAPER,)]:
            self.falls(thing)

    def test_values(self):
        for pair in PAIRS:
            for thing in THINGS:
                if thing != ():
                    self.falls({**PAPER, pair: thing})
                self.falls({**PAPER, pair: (*ROWS, thing)})
                if type(thing) is not int or not 0 <= thing < 97:
                    self.falls(with_rows(pair, *ROWS, ROWS[0][:5] + (thing,)))
        for thing in spoiled(ROWS, WRONG):
            self.falls(with_rows((3, 8), *thing) if isinstance(thing, tuple) else {**PAPER, (3, 8): thing})

    def test_rows_of_another_width(self):
        for pair in PAIRS:
            self.falls(with_rows(pair, *ROWS, (0,) * 5))
            self.falls(with_rows(pair, *ROWS, (0,) * 7))
            self.falls(with_rows(pair, *ROWS, ()))
            self.falls(with_rows(pair, *[row + (0,) for row in ROWS]))
        self.falls({pair: tuple(row[:-1] for row in ROWS) for pair in PAIRS})
        # also where nothing else is asked
        for row in ((1, 0, 0, 0, 0), (1, 0, 0, 0, 0, 0, 0), [1, 0, 0, 0, 0, 0], (97, 0, 0, 0, 0, 0), (1, 0, 0, 0, 0, -1),
                    (True, 0, 0, 0, 0, 0), (1, 0, 0, False, 0, 0), (1, 0, 0, None, 0, 0), (1, 0, 0, "0", 0, 0)):
            self.falls({**PAPER, (3, 3): (row,)})
            self.falls({**PAPER, (3, 3): (NEVER, row)})

    def test_numbers_beyond_the_prime(self):
        for n in (97, 98, -1, -96, 10 ** 9, True, False, None, "0", (0,)):
            for at in range(6):
                row = tuple(n if k == at else 0 for k in range(6))
                self.falls(with_rows((7, 1), *ROWS, row))

    def test_lists_for_tuples(self):
        for pair in PAIRS:
            self.falls({**PAPER, pair: list(ROWS)})
            self.falls({**PAPER, pair: tuple(list(row) for row in ROWS)})
            self.falls({**PAPER, pair: {0: ROWS[0]}})

    def test_keys(self):
        for key in (0, None, True, "x", "", (), (0,), (0, 0, 0), ("0", "0"), (None, None), (0, None), (0, "0"), ((0, 0), 0),
                    ((0, 0),), (-1, 0), (0, -1), (9, 0), (0, 13), (8, 13), (10 ** 9, 0), (True, 0), (0, True), (True, True),
                    ((), ()), nested(28, lambda thing: (thing,))):
            for rows in (ROWS, (NEVER,), ()):
                self.falls({**PAPER, key: rows})
        # moves are no stopping steps
        for key in ((1, 0), (0, 4), (1, 4), (3, 12), (8, 11), (1, 5)):
            self.falls({**PAPER, key: (NEVER,)})
        # truths are no numbers, although 0 is False
        for key in ((False, False), (0, False), (False, 0)):
            self.falls({key if pair == (0, 0) else pair: rows for pair, rows in PAPER.items()})

    def test_nothing_is_changed(self):
        for paper in (PAPER, {**PAPER, (0, 1): [[0]]}, {**PAPER, "x": {"x": [1]}}):
            ahead = copy.deepcopy(paper)
            is_paper(ONE, OTHER, paper)
            self.assertEqual(paper, ahead)
            self.assertEqual(list(paper), list(ahead))


class Chance(unittest.TestCase):
    def test_as_by_all_states(self):
        chance = some(51)
        told = {True: 0, False: 0}
        for _ in range(150):
            one = some_kin(chance)
            other = mixed(chance, twin_of(chance, one, 1))
            width = 1 + len(one.places()) + len(other.places())
            if one.prime() ** width > 1000:
                continue
            paper = found(one, other)[1]
            for _ in range(8):
                thing = self.spoilt(chance, one, other, paper, width)
                right = plain_is_paper(one, other, thing)
                told[right] += 1
                self.assertIs(is_paper(one, other, thing), right)
        self.assertGreater(min(told.values()), 100)

    def spoilt(self, chance, one, other, paper, width):
        """A paper with one thing changed, or none."""
        p = one.prime()
        row = tuple(chance.choice((0, 0, chance.randrange(p))) for _ in range(width))
        pair = chance.choice(list(paper))
        sort = chance.randrange(6)
        if sort == 0:
            return {key: rows for key, rows in paper.items() if key != pair}
        if sort == 1:
            return {**paper, pair: (*paper[pair], row)}
        if sort == 2:
            return {**paper, pair: paper[pair][1:]}
        if sort == 3:
            key = chance.choice(stops_of(one)), chance.choice(stops_of(other))
            return {**paper, key: paper.get(key, ()) + (row,)}
        if sort == 4:
            key = chance.choice(stops_of(one)), chance.choice(stops_of(other))
            return {key: ((1, *(0,) * (width - 1)),), **paper}
        return {key: rewritten_rows(chance, rows, p) for key, rows in paper.items()}
