"""[10.1], of linked flows, their papers and clients, and [0.2] (d)."""

import unittest

from flowmade import changed, mixed, some_kin, twin_of
from onetrace.errors import NoFlow, NoPair, NoUnit, TooMany
from onetrace.finding import found
from onetrace.flowruns import events_of
from onetrace.flows import Flow
from onetrace.joins import same_paper, turned_paper
from onetrace.leading import flow_of
from onetrace.linking import asker_paper, client_of, led_paper, linked
from onetrace.papers import is_paper
from onetrace.walking import walked
from onetrace.written import Written
from plainpapers import rewritten_rows, stops_of
from runs import Keeper, next_letter, plain_kept
from things import THINGS, kept, same, some

X = (0, (("x", 1),))
ONE = (1, ())

# it keeps the sum of what it was told, asks box for it, and lets it be known by words
LIB = Flow(("sum", "n", "x"), (
    ("serve", (("add", ("n", "x"), 1), ("get", (), 3))),
    ("move", (("sum", (0, (("n", 1), ("sum", 1), ("x", 2)))),), 2),
    ("done", (5, (("sum", 1),))),
    ("pick", (("lost", 4), ("more", 5), ("now", 2))),
    ("fail", "lost"),
    ("take", "n", 6),
    ("out", (0, (("n", 1),)), 7),
    ("ask", "lib", "get", (), "x", 2, 4),
))
MAIN = Flow(("x", "y"), (
    ("serve", (("main", ("x", "y"), 1),)),
    ("ask", "lib", "add", ((1, (("x", 1),)), (0, (("y", 1),))), "y", 2, 4),
    ("ask", "box", "add", ((0, (("y", 1),)),), "", 3, 4),
    ("ask", "lib", "get", (), "x", 5, 4),
    ("fail", "fault"),
    ("done", X),
))
TOGETHER = ("x", "y", "lib.sum", "lib.n", "lib.x")


def flow_with(*steps, places=("x",), prime=97):
    return Flow(places, (("serve", (("go", (), 1),)), *steps), prime=prime)


def asking(chance, flow):
    """A flow that asks lib for nothing but `add` of one number and `get` of none."""
    steps = []
    for step in flow.steps():
        if step[0] == "ask" and step[1] == "lib":
            forms = (*step[3], ONE)[:1] if step[2] == "put" else ()
            step = ("ask", "lib", "add" if forms else "get", forms, *step[4:])
        steps.append(step)
    return Flow(flow.places(), tuple(steps), prime=flow.prime())


def some_asker(chance, p, most=9):
    while True:
        flow = asking(chance, some_kin(chance, primes=(p,), most=most))
        if any(step[:2] == ("ask", "lib") for step in flow.steps()):
            return flow


class Linked(unittest.TestCase):
    def test_by_hand(self):
        flow = kept(linked, MAIN, "lib", LIB)
        self.assertEqual((flow.places(), flow.prime(), flow.deeds()), (TOGETHER, 97, (("main", 2),)))
        call = ("call", "main", (3, 4))
        # 4 + 2 * 4 are kept, and told with 5 more; box is asked with that
        letters = [("main", (3, 4)), 7, "now"]
        events = [call, ("ask", "box", "add", (17,)), ("answer", 7), ("pick", "now"), ("done", 17)]
        self.assertEqual(kept(events_of, flow, letters), (events, ("call",)))
        # what is kept is there in the next call
        self.assertEqual(events_of(flow, [*letters, ("main", (0, 1)), 0, "now"])[0][-1], ("done", 20))
        # a fail is a fault, and tells no word of its own
        self.assertEqual(events_of(flow, [("main", (3, 4)), 7, "lost"])[0][3:], [("pick", "lost"), ("fail", "fault")])
        # what lib asks of a unit called so too stays asked
        told = events_of(flow, [("main", (3, 4)), 7, "more", 9])
        self.assertEqual(told, ([*events[:3], ("pick", "more"), ("take", 9), ("out", 9), ("ask", "lib", "get", ())], ("ask",)))
        self.assertEqual(events_of(flow, [("main", (3, 4)), 7, "more", 9, 1])[0][-2:], [("answer", 1), ("done", 17)])
        self.assertEqual(events_of(flow, [("main", (3, 4)), 7, "more", 9, "!"])[0][-2:], [("fault",), ("fail", "fault")])
        # asks of others stay, with their faults
        self.assertEqual(events_of(flow, [("main", (3, 4)), "!"])[0][2:], [("fault",), ("fail", "fault")])
        self.assertTrue(linked(flow=MAIN, unit="lib", other=LIB) == flow)

    def test_of_nothing_asked(self):
        flow = linked(MAIN, "none", LIB)
        self.assertEqual(flow.places(), ("x", "y", "none.sum", "none.n", "none.x"))
        self.assertEqual(found(MAIN, flow)[0], "like")
        # nothing is asked, so the other one's deeds don't matter
        self.assertEqual(found(LIB, linked(LIB, "main", MAIN))[0], "like")

    def test_other_things_called_so(self):
        # words, places and deeds that are called as the unit is
        flow = Flow(("lib",), (
            ("serve", (("lib", ("lib",), 1),)), ("take", "lib", 2), ("pick", (("go", 3), ("lib", 4))), ("fail", "lib"),
            ("ask", "box", "lib", (), "lib", 5, 3), ("out", (0, (("lib", 1),)), 6), ("done", ONE)))
        self.assertEqual(found(flow, linked(flow, "lib", LIB))[0], "like")
        self.assertEqual(len(linked(flow, "lib", LIB)), len(flow))

    def test_of_itself(self):
        # what the copy asks of lib stays asked, and is done where it is linked again, under other places
        once = linked(LIB, "lib", LIB)
        self.assertEqual(once.places(), ("sum", "n", "x", "lib.sum", "lib.n", "lib.x"))
        with self.assertRaises(NoPair):
            linked(once, "lib", LIB)

    def test_numbers_that_go_nowhere(self):
        other = Flow((), (("serve", (("go", ("", ""), 1),)), ("done", ONE)))
        flow = flow_with(("ask", "lib", "go", (X, X), "", 2, 2), ("done", X))
        self.assertEqual(events_of(linked(flow, "lib", other), [("go", ())]), ([("call", "go", ()), ("done", 0)], ("call",)))
        other = Flow(("a",), (("serve", (("go", ("", "a"), 1),)), ("done", (0, (("a", 1),)))))
        flow = flow_with(("ask", "lib", "go", (ONE, (2, ())), "x", 2, 2), ("done", X))
        self.assertEqual(events_of(linked(flow, "lib", other), [("go", ())])[0][-1], ("done", 2))

    def test_all_are_reckoned_then_put(self):
        other = Flow(("x", "y"), (("serve", (("go", ("y", "x"), 1),)), ("done", (0, (("x", 1), ("y", 10))))))
        flow = Flow(("x", "y"), (
            ("serve", (("go", ("x", "y"), 1),)), ("ask", "lib", "go", (X, (0, (("y", 1),))), "x", 2, 2), ("out", X, 3),
            ("done", (0, (("y", 1),)))))
        self.assertEqual(events_of(linked(flow, "lib", other), [("go", (2, 3))])[0][1:], [("out", 23), ("done", 3)])

    def test_chance(self):
        chance = some(100)
        asked = called = 0
        for _ in range(500):
            p = chance.choice((2, 3, 97))
            flow, other = some_asker(chance, p), some_kin(chance, primes=(p,))
            both = linked(flow, "lib", other)
            self.assertEqual(both.places(), flow.places() + tuple(f"lib.{place}" for place in other.places()))
            self.assertEqual((both.prime(), both.deeds()), (p, flow.deeds()))
            make = lambda: Keeper(flow, {"lib": inner[-1]})
            letters, inner = [], []
            for _ in range(chance.randint(0, 25)):
                inner.append(Keeper(other))
                letters.append(next_letter(chance, flow, plain_kept(make, letters)[2]))
            inner.append(Keeper(other))
            told = plain_kept(make, letters)
            called += inner[-1].calls > 1
            self.assertEqual(("run", *events_of(both, letters, most=10 ** 6)), told)
            asked += any(event[:2] == ("ask", "lib") for event in told[1])
        # in some lib is asked again and again, in some it asks another lib
        self.assertGreater(called, 50)
        self.assertGreater(asked, 10)

    def test_one_behind_the_other(self):
        chance = some(101)
        for _ in range(150):
            p = chance.choice((2, 3))
            flow, lib, box = some_asker(chance, p), some_asker(chance, p), some_kin(chance, primes=(p,))
            inner = linked(lib, "lib", box)
            both = linked(flow, "lib", inner)
            make = lambda: Keeper(flow, {"lib": Keeper(lib, {"lib": Keeper(box)})})
            letters = []
            for _ in range(20):
                letters.append(next_letter(chance, flow, plain_kept(make, letters)[2]))
            self.assertEqual(("run", *events_of(both, letters, most=10 ** 6)), plain_kept(make, letters))

    def test_rounds_of_asks_are_none(self):
        # behind each ask a pick comes in lib, but not in what asks: no step of the copies may lead round idly
        flow = flow_with(("pick", (("go", 2), ("on", 3))), ("ask", "lib", "get", (), "x", 1, 4), ("out", X, 1), ("out", ONE, 1))
        both = linked(flow, "lib", LIB)
        self.assertEqual(events_of(both, [("go", ()), "go", "now", "on", "go", "lost"]), ([
            ("call", "go", ()), ("pick", "go"), ("pick", "now"), ("pick", "on"), ("out", 5), ("pick", "go"), ("pick", "lost"),
            ("out", 1)], ("pick", ("go", "on"))))


class Refusals(unittest.TestCase):
    def refuses(self, error, *things):
        with self.assertRaises(error) as caught:
            linked(*things)
        self.assertIs(type(caught.exception), error)

    def test_no_pair(self):
        done = ("done", ONE)
        self.refuses(NoPair, MAIN, "lib", Flow(LIB.places(), LIB.steps(), prime=89))
        for deed, forms in (("put", ()), ("get", (ONE,)), ("add", (ONE,)), ("add", (ONE, ONE, ONE)), ("add", ())):
            self.refuses(NoPair, flow_with(("ask", "lib", deed, forms, "x", 2, 2), done), "lib", LIB)
            # at a step that is never come to
            self.refuses(NoPair, flow_with(done, ("ask", "lib", deed, forms, "x", 1, 1)), "lib", LIB)
            linked(flow_with(done, ("ask", "box", deed, forms, "x", 1, 1)), "lib", LIB)
        for place in ("lib.sum", "lib.n", "lib.x"):
            self.refuses(NoPair, flow_with(done, places=(place,)), "lib", LIB)
            linked(flow_with(done, places=(place,)), "libs", LIB)

    def test_signs(self):
        flow = flow_with(("done", ONE), places=())
        for many, right in ((35, True), (36, True), (37, False), (40, False)):
            other = flow_with(("done", ONE), places=("x", "y" * many))
            if right:
                self.assertEqual(linked(flow, "lib", other).places(), ("lib.x", "lib." + "y" * many))
            else:
                self.refuses(TooMany, flow, "lib", other)

    def test_places(self):
        def flow(many):
            return flow_with(("done", ONE), places=tuple(f"x{at}" for at in range(many)))
        for one, other in ((100, 0), (0, 100), (60, 40)):
            self.assertEqual(len(linked(flow(one), "lib", flow(other)).places()), 100)
        for one, other in ((100, 1), (1, 100), (60, 41), (100, 100)):
            self.refuses(TooMany, flow(one), "lib", flow(other))

    def test_steps(self):
        other = flow_with(*[("done", ONE)] * 99)

        def flow(many, asks=90, unit="lib"):
            steps = [("ask", unit, "go", (), "x", at + 2, at + 2) for at in range(asks)]
            return flow_with(*steps, *[("done", X)] * (many - 1 - asks))
        both = linked(flow(1000), "lib", other)
        self.assertLessEqual(len(both), 10000)
        self.assertEqual(events_of(both, [("go", ())])[0][-1], ("done", 1))
        self.refuses(TooMany, flow(1001), "lib", other)
        linked(flow(1001), "box", other)
        linked(flow(10000, 0), "lib", other)
        linked(flow(9900, 1), "lib", other)
        self.refuses(TooMany, flow(9901, 1), "lib", other)

    def test_the_first_told_comes(self):
        # each that follows is refused, too
        wide = tuple(f"x{at}" for at in range(101))
        long = flow_with(("done", ONE), places=(*wide[:99], "y" * 40))
        asks = flow_with(("ask", "lib", "none", (), "x", 2, 2), ("done", ONE), places=("x", "lib.x0"))
        self.refuses(NoPair, asks, "lib", long)
        self.refuses(NoPair, flow_with(("done", ONE), places=("lib.x0",)), "lib", long)
        self.refuses(TooMany, flow_with(("done", ONE)), "lib", long)


def with_more(chance, one, other, paper):
    """A paper with rows told otherwise, and with more keys, which are never come to."""
    p, width = one.prime(), 1 + len(one.places()) + len(other.places())
    told = {pair: rewritten_rows(chance, rows, p) for pair, rows in paper.items()}
    never = (1, *(0,) * (width - 1))
    for _ in range(4):
        pair = chance.choice(stops_of(one)), chance.choice(stops_of(other))
        rows = chance.choice([(never,), (never, never), ((*never[:-1], p - 1), (*(0,) * (width - 1), 1)) if width > 1 else (never,)])
        told.setdefault(pair, rows)
    order = list(told)
    chance.shuffle(order)
    return {pair: told[pair] for pair in order}


class Led(unittest.TestCase):
    def led(self, flow, lib, new, paper):
        one, other = linked(flow, "lib", lib), linked(flow, "lib", new)
        told = kept(led_paper, flow, "lib", lib, new, paper)
        self.assertIs(is_paper(one, other, told), True)
        self.assertIs(is_paper(other, one, turned_paper(one, other, told)), True)
        return one, other, told

    def test_by_hand(self):
        # the same with sums kept twice as large
        new = Flow(("two", "n", "x"), (
            ("serve", (("add", ("n", "x"), 1), ("get", (), 3))),
            ("move", (("two", (0, (("n", 2), ("two", 1), ("x", 4)))),), 2),
            ("done", (5, (("two", 49),))),
            *LIB.steps()[3:],
        ))
        paper = found(LIB, new)[1]
        _, _, told = self.led(MAIN, LIB, new, paper)
        self.assertTrue(same(led_paper(flow=MAIN, unit="lib", lib=LIB, new=new, paper=paper), told))
        self.assertEqual(found(linked(MAIN, "lib", LIB), linked(MAIN, "lib", new))[0], "like")
        # of a flow that asks nothing of it
        told = led_paper(MAIN, "none", LIB, new, paper)
        self.assertTrue(is_paper(linked(MAIN, "none", LIB), linked(MAIN, "none", new), told))
        # a paper that is none makes none
        bad = {pair: () for pair in paper}
        self.assertFalse(is_paper(linked(MAIN, "lib", LIB), linked(MAIN, "lib", new), led_paper(MAIN, "lib", LIB, new, bad)))

    def test_of_same_ones(self):
        self.led(MAIN, LIB, LIB, same_paper(LIB))

    def test_chance(self):
        chance = some(102)
        deep = 0
        for _ in range(200):
            p = chance.choice((2, 3, 97, 997))
            flow, lib = some_asker(chance, p), some_kin(chance, primes=(p,), most=9)
            new = twin_of(chance, lib)
            paper = found(lib, new)[1]
            one, other, told = self.led(flow, lib, new, paper)
            self.led(flow, lib, new, with_more(chance, lib, new, paper))
            word, right = found(one, other)
            self.assertEqual(word, "like")
            # what is come by is among its keys
            self.assertLessEqual(set(right), set(told))
            deep += any(pair not in found(flow, flow)[1] for pair in right)
        self.assertGreater(deep, 50)


class Asker(unittest.TestCase):
    def asks(self, one, other, paper, lib):
        first, second = linked(one, "lib", lib), linked(other, "lib", lib)
        told = kept(asker_paper, one, other, paper, "lib", lib)
        self.assertIs(is_paper(first, second, told), True)
        return first, second, told

    def test_by_hand(self):
        other = mixed(some(103), MAIN)
        paper = found(MAIN, other)[1]
        _, _, told = self.asks(MAIN, other, paper, LIB)
        self.assertTrue(same(asker_paper(one=MAIN, other=other, paper=paper, unit="lib", lib=LIB), told))
        told = asker_paper(MAIN, other, paper, "none", LIB)
        self.assertTrue(is_paper(linked(MAIN, "none", LIB), linked(other, "none", LIB), told))
        self.asks(MAIN, MAIN, same_paper(MAIN), LIB)

    def test_chance(self):
        chance = some(104)
        deep = 0
        for _ in range(200):
            p = chance.choice((2, 3, 97, 997))
            one, lib = some_asker(chance, p), some_kin(chance, primes=(p,), most=9)
            other = twin_of(chance, one)
            paper = found(one, other)[1]
            first, second, told = self.asks(one, other, paper, lib)
            self.asks(one, other, with_more(chance, one, other, paper), lib)
            word, right = found(first, second)
            self.assertEqual(word, "like")
            self.assertLessEqual(set(right), set(told))
            deep += any(first.steps()[pair[0]] not in one.steps() for pair in right)
        self.assertGreater(deep, 30)

    def test_unlike_ones_too(self):
        # what isn't alike openly has no paper, linked or not
        chance = some(105)
        for _ in range(100):
            one, lib = some_asker(chance, 3), some_kin(chance, primes=(3,))
            try:
                other = asking(chance, changed(chance, one))
            except NoFlow:
                continue
            paper = same_paper(one)
            if found(one, other)[0] == "unlike" and found(linked(one, "lib", lib), linked(other, "lib", lib))[0] == "unlike":
                told = asker_paper(one, other, paper, "lib", lib)
                self.assertFalse(is_paper(linked(one, "lib", lib), linked(other, "lib", lib), told))


class Client(unittest.TestCase):
    def test_by_hand(self):
        unit = kept(client_of, "lib", [("add", (3, 4)), "left", 7, "!", ("get", ()), ("add", (0, 96))])
        self.assertIsInstance(unit, Written)
        self.assertEqual((unit.prime(), unit.asks()), (97, (("lib", "add", 2), ("lib", "get", 0))))
        self.assertEqual([(name, params) for name, params, _ in unit.deeds()], [("main", ())])
        begin = [("call", "main", ()), ("ask", "lib", "add", (3, 4))]
        events = [*begin, ("answer", 8), ("out", 8), ("ask", "lib", "get", ()), ("answer", 1), ("out", 1),
                  ("ask", "lib", "add", (0, 96)), ("answer", 0), ("out", 0), ("done", 0)]
        self.assertEqual(walked(unit, [("main", ()), 8, 1, 0]), (events, ("call",)))
        self.assertEqual(walked(unit, [("main", ()), "!"]), ([*begin, ("fault",), ("fail", "fault")], ("call",)))
        self.assertEqual(walked(unit, [("main", ()), 8, 1, "!"])[0], [*events[:8], ("fault",), ("fail", "fault")])
        # each call begins anew
        self.assertEqual(walked(unit, [("main", ()), "!", ("main", ()), 8])[0][-3:], [("answer", 8), ("out", 8), ("ask", "lib", "get", ())])

    def test_primes(self):
        self.assertEqual(client_of("lib", [("add", (1,))], prime=2).prime(), 2)
        with self.assertRaises(NoUnit):
            client_of("lib", [("add", (2,))], prime=2)
        with self.assertRaises(TypeError):
            client_of("lib", [("add", (1,))], 2)
        self.assertTrue(client_of(unit="lib", letters=[("add", (1,))], prime=3) == client_of("lib", [("add", (1,))], prime=3))

    def test_refusals(self):
        call = ("add", (1,))
        self.assertEqual(len(walked(client_of("lib", [call] * 5), [("main", ()), 1, 2, 3, 4, 5])[0]), 17)
        for letters in ([], ["left", 7, "!"], [call] * 6, [call, ("add", ())], [call, ("get", ()), ("add", (1, 2))]):
            with self.assertRaises(NoUnit):
                client_of("lib", letters)

    def test_it_parts_what_is_unlike(self):
        # linked with it both do otherwise by themselves
        other = Flow(LIB.places(), (*LIB.steps()[:2], ("done", (6, (("sum", 1),))), *LIB.steps()[3:]))
        letters = found(LIB, other)[1]
        client = flow_of(client_of("lib", letters))
        one, two = linked(client, "lib", LIB), linked(client, "lib", other)
        self.assertEqual(found(one, two), ("unlike", [("main", ())]))


class Handed(unittest.TestCase):
    def test_told_anew(self):
        paper = found(LIB, LIB)[1]
        led_paper(MAIN, "lib", LIB, LIB, paper).clear()
        asker_paper(LIB, LIB, paper, "main", MAIN).clear()
        self.assertEqual(paper, found(LIB, LIB)[1])
        self.assertTrue(led_paper(MAIN, "lib", LIB, LIB, paper))


if __name__ == "__main__":
    unittest.main()
