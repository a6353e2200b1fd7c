"""[10.1], of papers: same, turned and joined ones, and [0.2] (d)."""

import unittest

from flowmade import doubled, mixed, some_kin, twin_of
from onetrace.finding import found
from onetrace.flows import Flow
from onetrace.joins import joined_paper, same_paper, turned_paper
from onetrace.papers import is_paper
from onetrace.spaces import reduced
from plainpapers import rewritten_rows, stops_of, sums_of
from test_papers import NEVER, ONE, OTHER, PAIRS, PAPER, ROWS
from things import kept, same, some

X = (0, (("x", 1),))


class Same(unittest.TestCase):
    def test_by_hand(self):
        paper = kept(same_paper, ONE)
        self.assertTrue(is_paper(ONE, ONE, paper))
        self.assertTrue(is_paper(OTHER, OTHER, same_paper(flow=OTHER)))
        self.assertEqual(reduced(paper[0, 0], 97), ((0, 1, 0, 96, 0), (0, 0, 1, 0, 96)))
        flow = Flow((), (("serve", (("go", (), 1),)), ("done", (1, ()))), prime=2)
        self.assertTrue(is_paper(flow, flow, same_paper(flow)))

    def test_chance(self):
        chance = some(70)
        for _ in range(150):
            flow = some_kin(chance, primes=(2, 3, 97, 997), most=12)
            self.assertIs(is_paper(flow, flow, kept(same_paper, flow)), True)

    def test_told_anew(self):
        same_paper(ONE).clear()
        self.assertTrue(is_paper(ONE, ONE, same_paper(ONE)))

    def test_a_large_one(self):
        places = tuple(f"x{at}" for at in range(100))
        outs = tuple(("out", (0, ((places[at], 1),)), at + 2) for at in range(100))
        flow = Flow(places, (("serve", (("go", places[:3], 1),)), *outs, ("done", (1, ()))))
        self.assertTrue(is_paper(flow, flow, same_paper(flow)))


class Turned(unittest.TestCase):
    def test_by_hand(self):
        # 1, x, y, t, d, n comes to be 1, t, d, n, x, y
        turned = kept(turned_paper, ONE, OTHER, PAPER)
        self.assertEqual(sorted(turned), sorted((j, i) for i, j in PAIRS))
        for rows in turned.values():
            self.assertEqual(reduced(rows, 97), reduced(((0, 0, 96, 0, 2, 0), (0, 0, 0, 96, 0, 1)), 97))
        self.assertTrue(is_paper(OTHER, ONE, turned))
        self.assertTrue(same(turned_paper(one=ONE, other=OTHER, paper=PAPER), turned))

    def test_keys_that_are_never_come_to(self):
        turned = turned_paper(ONE, OTHER, {**PAPER, (3, 1): (NEVER,), (4, 2): (NEVER, *ROWS)})
        self.assertTrue(is_paper(OTHER, ONE, turned))
        self.assertEqual(reduced(turned[1, 3], 97), (NEVER,))
        self.assertIn((2, 4), turned)

    def test_told_anew(self):
        turned_paper(ONE, OTHER, PAPER).clear()
        self.assertEqual(len(turned_paper(ONE, OTHER, PAPER)), len(PAIRS))

    def test_chance(self):
        chance = some(71)
        for _ in range(150):
            one = some_kin(chance, primes=(2, 3, 97, 997), most=10)
            other = twin_of(chance, one, 2)
            paper = found(one, other)[1]
            turned = turned_paper(one, other, paper)
            self.assertIs(is_paper(other, one, turned), True)
            again = turned_paper(other, one, turned)
            p = one.prime()
            self.assertEqual({pair: reduced(rows, p) for pair, rows in again.items()}, paper)
            self.assertEqual({pair: reduced(rows, p) for pair, rows in turned.items()}, found(other, one)[1])


def plain_joined(one, mid, other, first, second):
    """Of each pair all rows that follow: by all sums of multiples there are."""
    p, ahead, middle, behind = one.prime(), len(one.places()), len(mid.places()), len(other.places())
    joined = {}
    for number in stops_of(one):
        for last in stops_of(other):
            told = None
            for between in stops_of(mid):
                if (number, between) not in first or (between, last) not in second:
                    continue
                rows = [row + (0,) * behind for row in first[number, between]]
                rows += [row[:1] + (0,) * ahead + row[1:] for row in second[between, last]]
                sums = sums_of(rows, 1 + ahead + middle + behind, p)
                if (1,) + (0,) * (ahead + middle + behind) in sums:
                    continue
                left = {row[:1 + ahead] + row[1 + ahead + middle:] for row in sums
                        if not any(row[1 + ahead:1 + ahead + middle])}
                told = left if told is None else told & left
            if told is not None:
                joined[number, last] = told
    return joined


class Joined(unittest.TestCase):
    def joined(self, one, mid, other, first, second):
        paper = kept(joined_paper, one, mid, other, first, second)
        self.assertIs(is_paper(one, other, paper), True)
        return paper

    def test_by_hand(self):
        turned = turned_paper(ONE, OTHER, PAPER)
        paper = self.joined(ONE, OTHER, ONE, PAPER, turned)
        # both dones of OTHER go along with the last one of ONE, which goes along with itself
        self.assertEqual(sorted(paper), [(at, at) for at in (0, 2, 3, 4, 5, 6, 7, 8)])
        for rows in paper.values():
            self.assertEqual(reduced(rows, 97), ((0, 1, 0, 96, 0), (0, 0, 1, 0, 96)))
        paper = self.joined(OTHER, ONE, OTHER, turned, PAPER)
        self.assertEqual(sorted(paper), sorted([(j, j) for _, j in PAIRS] + [(9, 10), (10, 9)]))
        self.assertEqual(reduced(paper[9, 10], 97), ((0, 0, 1, 0, 0, 96, 0), (0, 0, 0, 1, 0, 0, 96)))
        self.assertTrue(same(joined_paper(one=OTHER, mid=ONE, other=OTHER, first=turned, second=PAPER), paper))

    def test_with_same_ones(self):
        for one, mid, other, first, second in (
            (ONE, ONE, OTHER, same_paper(ONE), PAPER), (ONE, OTHER, OTHER, PAPER, same_paper(OTHER)),
        ):
            paper = self.joined(one, mid, other, first, second)
            self.assertEqual({pair: reduced(rows, 97) for pair, rows in paper.items()},
                             {pair: reduced(rows, 97) for pair, rows in PAPER.items()})

    def test_at_each_step_of_mid(self):
        # behind a more is 3, behind b it is what it was; mid has a done for each, the others have one for both
        def flow(place, behind):
            steps = [("serve", (("go", (place,), 1),)), ("pick", (("a", 3), ("b", behind))), ("done", (0, ((place, 1),))),
                     ("move", (("more", (3, ())),), 2)]
            return Flow((place, "more"), tuple(steps + steps[2:3] * (behind == 4)))
        one, mid, other = flow("x", 2), flow("y", 4), flow("z", 2)
        first, second = found(one, mid)[1], found(mid, other)[1]
        self.assertEqual(sorted(first), [(0, 0), (1, 1), (2, 2), (2, 4)])
        self.assertEqual(sorted(second), [(0, 0), (1, 1), (2, 2), (4, 2)])
        alike, more, three = (0, 1, 0, 96, 0), (0, 0, 1, 0, 96), (1, 0, 0, 0, 32)
        # with one done of mid more is 3, but not with the other one
        self.assertEqual(first[2, 2], reduced((alike, more, three), 97))
        self.assertEqual(first[2, 4], reduced((alike, more), 97))
        paper = self.joined(one, mid, other, first, second)
        self.assertEqual({pair: reduced(rows, 97) for pair, rows in paper.items()},
                         {pair: (alike, more) for pair in ((0, 0), (1, 1), (2, 2))})
        # where that other one is never come to, more is 3
        first[2, 4], second[4, 2] = (NEVER[:5],), (NEVER[:5],)
        self.assertEqual(reduced(joined_paper(one, mid, other, first, second)[2, 2], 97), reduced((alike, more, three), 97))

    def test_no_key_where_there_is_none(self):
        turned = turned_paper(ONE, OTHER, PAPER)
        ahead = joined_paper(ONE, OTHER, ONE, PAPER, turned)
        for pair in ((3, 1), (3, 2), (8, 8), (4, 3)):
            for rows in ((NEVER,), (NEVER, *ROWS), ((1, 1, 0, 0, 0, 0), (0, 1, 0, 0, 0, 0))):
                first = {**PAPER, pair: rows}
                paper = self.joined(ONE, OTHER, ONE, first, turned)
                self.assertEqual({key: reduced(told, 97) for key, told in paper.items()},
                                 {key: reduced(told, 97) for key, told in ahead.items()})

    def test_never_by_both_together(self):
        # neither has (1, 0, .., 0) by itself, but both together have it
        def flow(n):
            return Flow(("x",), (("serve", (("go", (), 1),)), ("move", (("x", (n, ())),), 2), ("done", (5, ())), ("done", (5, ()))))
        one = flow(1)
        first = {(0, 0): (), (2, 2): (), (2, 3): ((96, 0, 1),)}
        second = {(0, 0): (), (2, 2): (), (3, 2): ((95, 1, 0),)}
        self.assertTrue(is_paper(one, one, first) and is_paper(one, one, second))
        self.assertEqual(self.joined(one, one, one, first, second), {(0, 0): (), (2, 2): ()})
        # where that alone leads there, there is no key
        first[3, 3], second[3, 3] = ((96, 0, 1),), ((95, 1, 0),)
        self.assertEqual(sorted(self.joined(one, one, one, first, second)), [(0, 0), (2, 2)])

    def test_told_anew(self):
        turned = turned_paper(ONE, OTHER, PAPER)
        paper = joined_paper(ONE, OTHER, ONE, PAPER, turned)
        joined_paper(ONE, OTHER, ONE, PAPER, turned).clear()
        self.assertTrue(same(joined_paper(ONE, OTHER, ONE, PAPER, turned), paper))

    def test_chance(self):
        chance = some(72)
        for _ in range(100):
            one = some_kin(chance, primes=(2, 3, 97, 997), most=9)
            mid, other = twin_of(chance, one, 3), twin_of(chance, one, 2)
            p = one.prime()
            first, second = found(one, mid)[1], found(mid, other)[1]
            first = {pair: rewritten_rows(chance, rows, p) for pair, rows in first.items()}
            paper = self.joined(one, mid, other, first, second)
            self.assertEqual(sorted(paper), sorted(found(one, other)[1]))

    def test_all_that_follows(self):
        chance = some(73)
        several = 0
        for _ in range(250):
            one = some_kin(chance, primes=(2,), most=6)
            mid = doubled(chance, mixed(chance, one))
            other = mixed(chance, doubled(chance, one))
            first, second = found(one, mid)[1], found(mid, other)[1]
            for paper, flow, behind in ((first, one, mid), (second, mid, other)):
                width = 1 + len(flow.places()) + len(behind.places())
                for pair in list(paper):
                    if chance.random() < 0.3 and pair != (0, 0):
                        paper.setdefault((chance.choice(stops_of(flow)), pair[1]), ((1, *(0,) * (width - 1)),))
            joined = joined_paper(one, mid, other, first, second)
            right = plain_joined(one, mid, other, first, second)
            width = 1 + len(one.places()) + len(other.places())
            self.assertEqual({pair: sums_of(rows, width, 2) for pair, rows in joined.items()}, right)
            self.assertTrue(is_paper(one, other, joined))
            between = [pair for pair in joined if sum((pair[0], j) in first and (j, pair[1]) in second for j in stops_of(mid)) > 1]
            several += len(between)
        self.assertGreater(several, 30)
