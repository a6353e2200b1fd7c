"""Stage 9: small forms, and [0.2] (c)."""

import unittest

from flowmade import changed, plain_found, reached, residue, some_kin, twin_of
from onetrace.finding import found
from onetrace.flowruns import events_of
from onetrace.flows import Flow
from onetrace.leading import flow_of
from onetrace.papers import is_paper
from onetrace.small import small_of
from onetrace.written import Written
from test_finding import line
from test_papers import ONE, OTHER, other_with
from things import kept, some
from units import some_unit

X = (0, (("x", 1),))
Y = (0, (("y", 1),))


def stops_in(flow):
    return sum(step[0] != "move" for step in flow.steps())


class Small(unittest.TestCase):
    def small(self, flow, stops=None):
        """The small form, with a look whether it is alike, small itself, and has so many stopping steps."""
        small = kept(small_of, flow)
        self.assertIs(type(small), Flow)
        kind, paper = found(flow, small)
        self.assertEqual(kind, "like")
        self.assertTrue(is_paper(flow, small, paper))
        self.assertEqual(small_of(small), small)
        self.assertLessEqual(stops_in(small), len(reached(flow)))
        if stops is not None:
            self.assertEqual(stops_in(small), stops)
        # no other ones are possible: from each step on another thing is told, or numbers count otherwise
        parted = {residue(flow, number, {}, 0, 6) for number in reached(flow)}
        self.assertLessEqual(len(parted), stops_in(small))
        return small

    def test_by_name(self):
        self.assertEqual(small_of(flow=ONE), small_of(ONE))

    def test_by_hand(self):
        # both dones are one, that tells what is kept for it; the others are unlike
        small = self.small(ONE, 7)
        self.assertEqual(self.small(OTHER, 7), small)
        self.assertEqual(len(small.places()), 2)

    def test_a_very_small_one(self):
        flow = Flow(("x", "y"), (
            ("serve", (("go", ("x",), 1),)), ("move", (("y", X),), 2), ("move", (("x", (5, ())),), 3), ("done", (4, ())), ("out", X, 3)))
        self.assertEqual(self.small(flow, 2), Flow((), (("serve", (("go", ("",), 1),)), ("done", (4, ())))))

    def test_needless_places(self):
        plain = Flow(("x",), (("serve", (("add", ("x",), 1),)), ("take", "", 2), ("done", X)))
        small = self.small(plain, 3)
        for places, steps in (
            (("x", "y"), plain.steps()), (("y", "x", "z"), plain.steps()),
            # a number that is kept but never told
            (("x", "y"), (("serve", (("add", ("x",), 1),)), ("take", "y", 2), ("done", X))),
            (("x", "y", "z"), (("serve", (("add", ("x",), 1),)), ("take", "y", 3), ("done", X),
                               ("move", (("z", (3, (("y", 2), ("z", 5)))),), 2))),
            # one that is told less itself
            (("x", "y"), (("serve", (("add", ("x",), 1),)), ("move", (("x", (0, (("x", 1), ("y", 1)))),), 2), ("take", "", 3),
                          ("move", (("x", (0, (("x", 1), ("y", 96)))),), 4), ("done", X))),
            # a copy of another one
            (("x", "y"), (("serve", (("add", ("x",), 1),)), ("move", (("y", X),), 2), ("take", "x", 3), ("done", Y))),
        ):
            self.assertEqual(self.small(Flow(places, steps), 3), small)
        self.assertEqual(len(small.places()), 1)
        self.assertEqual(len(small), 3)

    def test_needless_steps(self):
        small = self.small(Flow(("x",), (("serve", (("go", ("x",), 1),)), ("pick", (("a", 1), ("b", 2))), ("done", X))), 3)
        for steps in (
            # one that is never come to, and moves
            (("serve", (("go", ("x",), 3),)), ("take", "x", 1), ("done", X), ("move", (), 4), ("pick", (("a", 3), ("b", 5))),
             ("move", (("x", X),), 2)),
            # steps that stand twice, in rounds
            (("serve", (("go", ("x",), 1),)), ("pick", (("a", 2), ("b", 4))), ("pick", (("a", 3), ("b", 5))),
             ("pick", (("a", 1), ("b", 4))), ("done", X), ("done", X)),
        ):
            self.assertEqual(self.small(Flow(("x",), steps), 3), small)

    def test_steps_that_differ_in_what_they_keep(self):
        # one tells x, the other one twice x and 5: they are one where that is kept
        small = self.small(Flow(("x",), (
            ("serve", (("a", ("x",), 1), ("b", ("x",), 2))), ("done", X), ("done", (5, (("x", 2),))))), 2)
        self.assertEqual(small.deeds(), (("a", 1), ("b", 1)))
        # a number that comes there counts as much in both
        def flow(first, second):
            return Flow(("x", "y"), (
                ("serve", (("a", ("x",), 1), ("b", ("x",), 3))), ("take", "y", 2), ("done", first), ("take", "y", 4), ("done", second)))
        both = (0, (("x", 1), ("y", 1)))
        self.small(flow(both, (7, (("x", 3), ("y", 1)))), 3)
        # it doesn't here
        self.small(flow(both, (7, (("x", 3), ("y", 2)))), 4)
        self.small(flow(both, X), 4)
        self.small(flow(X, X), 3)
        self.small(flow(X, (4, ())), 3)

    def test_steps_that_lead_elsewhere(self):
        def flow(*ends):
            return Flow(("x",), (("serve", (("a", (), 1), ("b", (), 2))), ("take", "x", 3), ("take", "x", 4), *ends))
        self.small(flow(("done", X), ("done", X)), 3)
        self.small(flow(("done", X), ("done", (1, (("x", 1),)))), 3)
        self.small(flow(("done", X), ("done", (0, (("x", 2),)))), 4)
        self.small(flow(("done", X), ("fail", "no")), 5)
        self.small(flow(("fail", "yes"), ("fail", "no")), 5)
        self.small(flow(("fail", "no"), ("fail", "no")), 3)
        self.small(flow(("done", X), ("out", X, 3)), 5)

    def test_what_is_told_at_first(self):
        # the first call is done with 5, the next with 10: what is kept there is 0 at the begin
        flow = Flow(("x",), (("serve", (("go", (), 1),)), ("move", (("x", (5, (("x", 1),))),), 2), ("done", X)))
        small = self.small(flow, 2)
        self.assertEqual(events_of(small, [("go", ())] * 3), events_of(flow, [("go", ())] * 3))
        self.assertEqual(self.small(Flow(("y",), (
            ("serve", (("go", (), 1),)), ("done", (5, (("y", 3),))), ("take", "y", 1)))), self.small(Flow((), (
                ("serve", (("go", (), 1),)), ("done", (5, ()))))))

    def test_numbers_that_are_kept_between_calls(self):
        def flow(*places):
            x, y = places
            return Flow(("t", *sorted(places)), (
                ("serve", (("add", (y,), 1), ("get", (), 4), ("set", (y,), 3))),
                ("move", ((x, (0, tuple(sorted(((x, 1), (y, 1)))))),), 2), ("done", (0, ((y, 1),))),
                ("move", ((x, (0, ((y, 1),))),), 2), ("done", (0, ((x, 1),)))))
        small = self.small(flow("x", "y"))
        self.assertEqual(small, self.small(flow("y", "x")))
        self.assertEqual(stops_in(small), 2)
        self.assertEqual(events_of(small, [("add", (5,)), ("add", (6,)), ("get", ())])[0][-1], ("done", 11))

    def test_twins(self):
        chance = some(60)
        gains = 0
        for _ in range(150):
            flow = some_kin(chance, primes=(2, 3, 97, 997))
            small = self.small(flow)
            gains += stops_in(small) < len(reached(flow))
            self.assertLessEqual(len(small.places()), 1 + len(reached(flow)) * (1 + len(flow.places())))
            for many in (1, 2, 3):
                twin = twin_of(chance, flow, many)
                self.assertEqual(kept(small_of, twin), small)
        self.assertGreater(gains, 15)

    def test_no_fewer_steps(self):
        chance = some(61)
        for _ in range(150):
            flow = some_kin(chance, primes=(2, 3, 97), most=9)
            parted = {residue(flow, number, {}, 0, 7) for number in reached(flow)}
            self.assertEqual(stops_in(small_of(flow)), len(parted))

    def test_unlike_ones(self):
        chance = some(62)
        kinds = {"like": 0, "unlike": 0}
        for _ in range(300):
            one = some_kin(chance)
            other = twin_of(chance, changed(chance, one), 1)
            if max(one.prime() ** len(one.places()), other.prime() ** len(other.places())) > 300:
                continue
            kind, _ = plain_found(one, other)
            kinds[kind] += 1
            self.assertEqual(small_of(one) == small_of(other), kind == "like")
        self.assertGreater(min(kinds.values()), 40)
        for at, step in ((1, ("fail", "empty")), (9, ("done", (0, (("n", 1),)))), (6, ("out", (1, (("d", 49),)), 7))):
            self.assertNotEqual(small_of(ONE), small_of(other_with(at, step)))
        self.assertNotEqual(small_of(line(3, 97)), small_of(line(4, 97)))
        self.assertNotEqual(small_of(line(3, 97)), small_of(line(3, 101)))

    def test_the_largest(self):
        # 3 stopping steps, 29 places
        for p in (2, 97, 997):
            flow = line(29, p)
            small = self.small(flow, 3)
            self.assertEqual(len(small.places()), 29)
            chance = some(63)
            for _ in range(2):
                self.assertEqual(small_of(twin_of(chance, flow, 1)), small)
        # 44 stopping steps, 1 place: of steps that tell their own all are needed
        steps = [("out", (at, (("x", 1),)), at + 1) for at in range(1, 42)]
        flow = Flow(("x",), (("serve", (("go", ("x",), 1),)), *steps, ("take", "x", 43), ("done", X)))
        self.small(flow, 44)
        # where words come in the place of outs, it matters how many are to come
        picks = [("pick", (("on", at + 1),)) for at in range(1, 44)]
        self.small(Flow(("x",), (("serve", (("go", ("x",), 1),)), *picks, ("done", X))), 45)

    def test_units(self):
        chance = some(64)
        for _ in range(40):
            flow = flow_of(some_unit(chance))
            small = small_of(flow)
            self.assertEqual(found(flow, small)[0], "like")
            self.assertEqual(small_of(twin_of(chance, flow, 1)), small)
        add = ("let", "x", (0, (("a", 1), ("x", 1))))
        one = Written(("x",), (("add", ("a",), (add, ("return", X))), ("get", (), (("return", X),))))
        two = Written(("y", "x"), (("get", (), (("let", "y", X), ("return", Y))), ("add", ("a",), (add, ("let", "a", X), ("return", (
            0, (("a", 1),)))))))
        self.assertEqual(small_of(flow_of(one)), small_of(flow_of(two)))
        self.assertEqual(stops_in(small_of(flow_of(one))), 2)
