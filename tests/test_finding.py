"""[8.1]: finding, and [0.2] (a) and (b)."""

import unittest

from flowmade import changed, due_of, letters_at, plain_found, plain_on, some_kin, twin_of
from onetrace.errors import NoPair
from onetrace.finding import found, is_span, spans_of
from onetrace.flowruns import events_of, state_of
from onetrace.flows import Flow
from onetrace.leading import flow_of
from onetrace.papers import is_paper
from onetrace.spaces import follows, nulls_of, product_of, reduced
from onetrace.written import Written
from codes import some_coded
from test_papers import ONE, OTHER, OTHER_STEPS, PAIRS, PAPER, ROWS, other_with
from things import THINGS, kept, nested, same, some, spoiled
from units import some_unit

X = (0, (("x", 1),))
ONES = (1, ())


def told(one, other, letters):
    """Whether both tell the same behind letters, and wait for the same."""
    return events_of(one, letters, most=10 ** 6) == events_of(other, letters, most=10 ** 6)


def line(many, p):
    """A flow that takes numbers, each from one place to the next, and tells what is in the last one."""
    places = tuple(f"n{at}" for at in range(many))
    moves = tuple((place, (0, ((ahead, 1),))) for ahead, place in zip(places, places[1:]))
    return Flow(places, (
        ("serve", (("go", (), 1),)), ("out", (0, ((places[-1], 1),)), 2), ("move", moves, 3), ("take", places[0], 1)), prime=p)


class Unlike(unittest.TestCase):
    def parts(self, one, other, letters):
        """The letters are told, whichever comes first, and no shorter ones part both."""
        self.assertTrue(same(kept(found, one, other), ("unlike", letters)))
        self.assertTrue(same(found(other, one), ("unlike", letters)))
        self.assertFalse(told(one, other, letters))
        for many in range(len(letters)):
            self.assertTrue(told(one, other, letters[:many]))
        with self.assertRaises(NoPair):
            spans_of(one, other)

    def test_by_hand(self):
        for at, step, letters in (
            (1, ("fail", "empty"), [("add", (0,)), "left", "!"]),
            (2, ("take", "t", 9), [("add", (0,)), "right", 1]),
            (3, (*OTHER_STEPS[3][:4], "t", 10, 1), [("add", (0,)), "left", 1]),
            (3, ("ask", "lib", "gets", *OTHER_STEPS[3][3:]), [("add", (0,)), "left"]),
            (3, ("ask", "lib", "get", ((0, (("d", 50),)), (2, (("n", 3),))), "n", 10, 1), [("add", (1,)), "left"]),
            (6, ("out", (0, (("d", 48),)), 7), [("add", (1,))]),
            (6, ("out", (1, (("d", 49),)), 7), [("add", (0,))]),
            (7, ("pick", (("left", 3), ("right", 2), ("up", 2))), [("add", (0,))]),
            (7, ("pick", (("left", 2), ("right", 2))), [("add", (0,)), "left"]),
            (8, ("done", (0, (("d", 48),))), [("add", (1,)), "left", 0, ("get", ())]),
            (9, ("done", (0, (("n", 1),))), [("add", (1,)), "right", 0]),
            (10, ("done", (0, (("d", 49),))), [("add", (0,)), "left", 1]),
        ):
            self.parts(ONE, other_with(at, step), letters)
        # what is kept of n is put anew ahead of all that tells it
        self.assertEqual(found(ONE, other_with(12, ("move", (("n", (1, ())),), 8)))[0], "like")

    def test_in_what_is_due_alone(self):
        def flow(step, more=()):
            return Flow((), (("serve", (("go", (), 1),)), ("pick", (("a", 2), ("b", 3))), step, ("take", "", 1), *more))
        one = flow(("take", "", 1))
        self.parts(one, flow(("pick", (("a", 3),))), [("go", ()), "a"])
        self.parts(flow(("pick", (("a", 3),))), flow(("pick", (("a", 3), ("b", 3)))), [("go", ()), "a"])
        self.parts(one, flow(("move", (), 1)), [("go", ()), "a"])
        # one waits where the other one is done
        self.parts(one, flow(("done", ONES)), [("go", ()), "a"])

    def test_in_what_is_asked(self):
        def flow(*asks):
            steps = tuple((*ask, "x", at + 2, at + 2) for at, ask in enumerate(asks))
            return Flow(("x", "y"), (("serve", (("go", ("x", "y"), 1),)), *steps, ("done", X)))
        y = (0, (("y", 1),))
        one = flow(("ask", "u", "d", (X, y)))
        for ask in (("ask", "w", "d", (X, y)), ("ask", "u", "e", (X, y)), ("ask", "u", "d", (X,)), ("ask", "u", "d", (X, y, y))):
            self.parts(one, flow(ask), [("go", (0, 0))])
        self.parts(one, flow(("ask", "u", "d", (y, X))), [("go", (0, 1))])
        self.parts(one, flow(("ask", "u", "d", (X, X))), [("go", (0, 1))])
        self.parts(one, flow(("ask", "u", "d", (y, y))), [("go", (0, 1))])
        self.parts(one, flow(("ask", "u", "d", (X, (0, (("x", 1), ("y", 1)))))), [("go", (1, 0))])
        asked = ("ask", "u", "d", (X, y))
        self.parts(flow(asked, asked), flow(asked), [("go", (0, 0)), 0])

    def test_the_least_call(self):
        places = ("x", "y", "z")

        def flow(form, deed="b"):
            ways = tuple((name, places, 1 if name == deed else 2) for name in "abc")
            return Flow(places, (("serve", ways), ("done", form), ("done", (0, ()))))
        one = flow((0, ()))
        for terms, numbers in (
            ((("x", 5),), (1, 0, 0)), ((("y", 5),), (0, 1, 0)), ((("z", 96),), (0, 0, 1)), ((("x", 1), ("y", 1)), (0, 1, 0)),
            ((("x", 1), ("y", 1), ("z", 1)), (0, 0, 1)), ((("x", 7), ("z", 2)), (0, 0, 1)),
        ):
            for deed in "abc":
                self.parts(one, flow((0, terms), deed), [(deed, numbers)])
        self.parts(one, flow((1, (("z", 1),))), [("b", (0, 0, 0))])
        # calls by deed ahead of numbers
        self.parts(flow((0, (("x", 1),)), "a"), flow((1, ()), "c"), [("a", (1, 0, 0))])

    def test_the_least_word(self):
        def flow(*ends):
            words = ("a", "b", "c")
            ways = tuple((word, at + 2) for at, word in enumerate(words))
            return Flow((), (("serve", (("go", (), 1),)), ("pick", ways), *(("done", (n, ())) for n in ends)))
        self.parts(flow(1, 2, 3), flow(1, 4, 4), [("go", ()), "b"])
        self.parts(flow(1, 2, 3), flow(1, 2, 4), [("go", ()), "c"])
        self.parts(flow(1, 2, 3), flow(4, 4, 4), [("go", ()), "a"])

    def test_numbers_ahead_of_a_fault(self):
        def flow(answer, fault):
            return Flow(("x",), (("serve", (("go", (), 1),)), ("ask", "u", "d", (), "x", 2, 3), ("done", answer), ("done", fault)))
        one = flow((0, ()), (0, ()))
        self.parts(one, flow((0, ()), ONES), [("go", ()), "!"])
        self.parts(one, flow(X, ONES), [("go", ()), 1])
        self.parts(one, flow(ONES, ONES), [("go", ()), 0])
        self.parts(one, flow(X, (0, ())), [("go", ()), 1])

    def test_fewest_ahead_of_least(self):
        # by a it parts behind four letters, by z behind two
        steps = [("serve", (("a", (), 1), ("z", (), 5))), ("take", "", 2), ("take", "", 3), ("take", "", 4), ("done", (0, ())),
                 ("take", "", 6), ("done", (0, ()))]
        other = list(steps)
        other[4], other[6] = ("done", ONES), ("done", ONES)
        self.parts(Flow((), tuple(steps)), Flow((), tuple(other)), [("z", ()), 0])
        other[6] = steps[6]
        self.parts(Flow((), tuple(steps)), Flow((), tuple(other)), [("a", ()), 0, 0, 0])

    def test_long_rows_by_great_primes(self):
        for p in (2, 97, 997):
            for many in (1, 2, 10, 60):
                letters = [("go", ())] + [1] + [0] * (many - 1)
                self.parts(line(many, p), line(many + 1, p), letters)

    def test_sums_that_show_late(self):
        # what came is in a at once, and in each place behind it a call later
        p = 997
        one = Flow(("a", "b", "c", "d"), (("serve", (("go", ("a",), 1),)), ("move", (
            ("b", (0, (("a", 1), ("b", 2)))), ("c", (0, (("b", 1), ("c", 3)))), ("d", (0, (("c", 1), ("d", 5))))), 2),
            ("done", (0, (("d", 1),)))), prime=p)
        for terms, many in (((("a", 1), ("d", 1)), 0), ((("b", 1), ("d", 1)), 0), ((("c", 9), ("d", 1)), 1), ((("d", 2),), 2)):
            other = Flow(one.places(), (*one.steps()[:2], ("done", (0, terms))), prime=p)
            self.parts(one, other, [("go", (1,))] + [("go", (0,))] * many)

    def test_rounds_of_unlike_lengths(self):
        def rounds(many, p=97):
            return Flow((), (("serve", (("go", (), 1),)), *(
                ("pick", (("on", at + 2 if at < many - 1 else many + 1),)) for at in range(many)), ("take", "", 1)), prime=p)
        for one, other in ((3, 4), (7, 5), (16, 17)):
            self.parts(rounds(one), rounds(other), [("go", ())] + ["on"] * min(one, other))
        # the same round, told apart only where a long one is out of step
        def marked(many, at):
            steps = [("pick", (("on", k + 2 if k < many - 1 else 1),)) for k in range(many)]
            steps[at] = ("pick", (("off", 1), ("on", at + 2 if at < many - 1 else 1)))
            return Flow((), (("serve", (("go", (), 1),)), *steps))
        self.parts(marked(13, 12), marked(26, 12), [("go", ())] + ["on"] * 25)

    def test_least_by_chance(self):
        chance = some(52)
        kinds = {"like": 0, "unlike": 0}
        for _ in range(400):
            one = some_kin(chance)
            other = twin_of(chance, changed(chance, one), 1)
            if max(one.prime() ** len(one.places()), other.prime() ** len(other.places())) > 300:
                continue
            kind, what = plain_found(one, other)
            kinds[kind] += 1
            if kind == "unlike":
                self.assertTrue(same(found(one, other), (kind, what)))
            else:
                self.assertEqual(found(one, other)[0], kind)
        self.assertGreater(min(kinds.values()), 50)


class Refused(unittest.TestCase):
    def refused(self, one, other):
        for function in (found, spans_of):
            for pair in ((one, other), (other, one)):
                with self.assertRaises(NoPair) as caught:
                    function(*pair)
                self.assertIs(type(caught.exception), NoPair)

    def flow(self, *deeds, prime=97):
        return Flow(("x", "y"), (("serve", tuple((deed, params, 1) for deed, params in deeds)), ("done", X)), prime=prime)

    def test_unlike_deeds(self):
        one = self.flow(("add", ("x",)), ("get", ()))
        for deeds in ([("add", ("x",))], [("get", ())], [("add", ("x", "y")), ("get", ())], [("add", ()), ("get", ())],
                      [("add", ("x",)), ("got", ())], [("add", ("x",)), ("get", ()), ("put", ())], [("add", ("x", "")), ("get", ())]):
            self.refused(one, self.flow(*deeds))
        # where the numbers are put to matters not
        found(one, self.flow(("add", ("y",)), ("get", ())))
        found(one, self.flow(("add", ("",)), ("get", ())))

    def test_unlike_primes(self):
        self.refused(self.flow(("add", ("x",))), self.flow(("add", ("x",)), prime=101))
        self.refused(self.flow(("add", ())), self.flow(("add", ()), prime=2))
        self.refused(self.flow(("add", ())), self.flow(("get", ()), prime=2))


class Like(unittest.TestCase):
    def test_by_hand(self):
        kind, paper = kept(found, ONE, OTHER)
        self.assertEqual((kind, sorted(paper)), ("like", PAIRS))
        self.assertTrue(is_paper(ONE, OTHER, paper))
        for pair in PAIRS:
            self.assertTrue(all(follows(paper[pair], row, 97) for row in ROWS if pair != (6, 2) or row == ROWS[0]))
            self.assertEqual(paper[pair], reduced(paper[pair], 97))
        # t comes to be 1 behind a take
        self.assertTrue(follows(paper[8, 9], (96, 0, 0, 1, 0, 0), 97))
        self.assertFalse(follows(paper[8, 10], (96, 0, 0, 1, 0, 0), 97))
        self.assertEqual(found(one=ONE, other=OTHER), (kind, paper))

    def test_what_holds_at_few_states(self):
        flow = Flow(("x", "y"), (("serve", (("go", ("x",), 1),)), ("move", (("y", (5, (("x", 2),))),), 2), ("done", X)))
        _, paper = found(flow, flow)
        self.assertEqual(paper[2, 2], reduced(((0, 1, 0, 96, 0), (0, 0, 1, 0, 96), (5, 2, 96, 0, 0)), 97))
        # at the begin y is 0, so there only what holds there, too
        self.assertEqual(paper[0, 0], reduced(((0, 1, 0, 96, 0), (0, 0, 1, 0, 96)), 97))

    def test_steps_that_are_never_come_to(self):
        flow = Flow(("x",), (("serve", (("go", ("x",), 1),)), ("done", X), ("out", X, 3), ("fail", "no"), ("take", "x", 2)))
        _, paper = found(flow, flow)
        self.assertEqual(paper, {(0, 0): ((0, 1, 96),), (1, 1): ((0, 1, 96),)})

    def test_without_places(self):
        flow = Flow((), (("serve", (("go", (), 1),)), ("done", (4, ()))))
        self.assertEqual(found(flow, flow), ("like", {(0, 0): (), (1, 1): ()}))
        self.assertEqual(spans_of(flow, flow), {(0, 0): [[]], (1, 1): [[("go", ())]]})

    def test_told_anew(self):
        paper, spans = found(ONE, OTHER)[1], spans_of(ONE, OTHER)
        found(ONE, OTHER)[1].clear()
        changed_spans = spans_of(ONE, OTHER)
        changed_spans[0, 0].clear()
        changed_spans[2, 6][0].clear()
        changed_spans.clear()
        self.assertTrue(same(found(ONE, OTHER)[1], paper))
        self.assertTrue(same(spans_of(ONE, OTHER), spans))

    def test_all_that_holds(self):
        chance = some(53)
        for _ in range(150):
            one = some_kin(chance)
            other = twin_of(chance, one, 1)
            if max(one.prime() ** len(one.places()), other.prime() ** len(other.places())) > 300:
                continue
            width = 1 + len(one.places()) + len(other.places())
            kind, states = plain_found(one, other)
            right = {pair: nulls_of(came, width, one.prime()) for pair, came in states.items()}
            self.assertEqual((kind, right), found(one, other))

    def test_great_ones_by_chance(self):
        chance = some(54)
        for _ in range(100):
            one = some_kin(chance, primes=(97, 997), most=12)
            other = twin_of(chance, one, 4)
            kind, paper = found(one, other)
            self.assertEqual(kind, "like")
            self.assertTrue(is_paper(one, other, paper))
            self.assertTrue(is_paper(one, other, found(one, other)[1]))
            self.held(chance, one, other, paper)

    def held(self, chance, one, other, paper):
        """Behind letters that come by chance both come by pairs of the paper, where its rows are nought."""
        here, there = (0, (0,) * len(one.places())), (0, (0,) * len(other.places()))
        for _ in range(20):
            letter = chance.choice(letters_at(one, here[0]))
            events, stops = plain_on(one, *here, letter)
            others, other_stops = plain_on(other, *there, letter)
            self.assertEqual((events, len(stops)), (others, len(other_stops)))
            for (number, held), (other_number, other_held) in zip(stops, other_stops):
                for row in paper[number, other_number]:
                    self.assertEqual(product_of(row, (1, *held, *other_held), one.prime()), 0)
            here, there = stops[-1], other_stops[-1]
            self.assertEqual(due_of(one, here[0]), due_of(other, there[0]))

    def test_units(self):
        chance = some(55)
        for at in range(60):
            unit = some_unit(chance) if at % 2 else some_coded(chance)
            flow = flow_of(unit)
            other = twin_of(chance, flow, 1)
            kind, paper = found(flow, other)
            self.assertEqual(kind, "like")
            self.assertTrue(is_paper(flow, other, paper))

    def test_unlike_units(self):
        add = (0, (("a", 1), ("x", 1)))
        one = Written(("x",), (("add", ("a",), (("let", "x", add), ("return", (0, (("x", 1),))))), ("get", (), (("return", X),))))
        two = Written(("x",), (("add", ("a",), (("let", "x", add), ("return", add))), ("get", (), (("return", X),))))
        three = Written(("z", "x"), (("get", (), (("return", X),)), ("add", ("b",), (
            ("let", "x", (0, (("b", 1), ("x", 1)))), ("let", "z", (0, (("b", 1), ("z", 1)))), ("return", (0, (("z", 1),)))))))
        self.assertEqual(found(flow_of(one), flow_of(two)), ("unlike", [("add", (1,))]))
        self.assertEqual(found(flow_of(one), flow_of(three))[0], "like")


class Spans(unittest.TestCase):
    def test_by_hand(self):
        spans = kept(spans_of, ONE, OTHER)
        self.assertEqual(sorted(spans), PAIRS)
        self.assertEqual(spans[0, 0][0], [])
        self.assertEqual(spans[2, 6][0], [("add", (0,))])
        self.assertTrue(same(spans_of(one=ONE, other=OTHER), spans))
        paper = found(ONE, OTHER)[1]
        self.shown(ONE, OTHER, paper, spans)
        self.assertIs(is_span(one=ONE, other=OTHER, paper=paper, thing=spans), True)

    def shown(self, one, other, paper, spans):
        """By runs: behind each row both come by the pair, and what is nought at the states there follows."""
        self.assertEqual(sorted(spans), sorted(paper))
        p, width = one.prime(), 1 + len(one.places()) + len(other.places())
        for pair, rows in spans.items():
            self.assertIs(type(rows), list)
            states = []
            for letters in rows:
                self.assertIs(type(letters), list)
                states.append(self.state_at(one, other, pair, letters))
            self.assertEqual(nulls_of(tuple(states), width, p), paper[pair])
        self.assertIs(kept(is_span, one, other, paper, spans), True)

    def state_at(self, one, other, pair, letters):
        if not letters:
            self.assertEqual(pair, (0, 0))
            return 1, *(0 for _ in one.places()), *(0 for _ in other.places())
        stops = []
        for flow in (one, other):
            number, held = state_of(flow, letters[:-1], most=10 ** 6)
            stops.append(plain_on(flow, number, tuple(held.values()), letters[-1])[1])
        for (number, held), (other_number, other_held) in zip(*stops):
            if (number, other_number) == pair:
                return 1, *held, *other_held
        self.fail("they don't come by that pair")

    def test_by_chance(self):
        chance = some(56)
        for _ in range(80):
            one = some_kin(chance, primes=(2, 3, 97))
            other = twin_of(chance, one, 2)
            self.shown(one, other, found(one, other)[1], spans_of(one, other))

    def test_long_ones(self):
        one, other = line(40, 997), line(40, 997)
        paper, spans = found(one, other)[1], spans_of(one, other)
        self.assertEqual(sorted(map(len, paper.values())), [40, 41, 80])
        self.shown(one, other, paper, spans)


class IsSpan(unittest.TestCase):
    def setUp(self):
        self.paper = found(ONE, OTHER)[1]
        self.spans = spans_of(ONE, OTHER)

    def falls(self, thing):
        self.assertIs(kept(is_span, ONE, OTHER, self.paper, thing), False)

    def stands(self, thing):
        self.assertIs(kept(is_span, ONE, OTHER, self.paper, thing), True)

    def test_others(self):
        self.stands({pair: rows[::-1] for pair, rows in reversed(list(self.spans.items()))})
        self.stands({pair: rows + rows[:1] for pair, rows in self.spans.items()})
        # longer rows, that lead there again, and more of them
        ahead = [("add", (50,)), "left", 3]
        self.stands({pair: [ahead + letters for letters in rows] + rows for pair, rows in self.spans.items()})
        # other numbers
        self.stands({**self.spans, (2, 6): [
            [("add", (5,)), "right", 0, ("add", (6,))], [("add", (5,)), "left", "!", ("add", (9,))], [("add", (7,))], [("add", (9,))],
            *self.spans[2, 6]]})
        # keys are compared by ==
        self.stands({(False, 0) if pair == (0, 0) else pair: rows for pair, rows in self.spans.items()})

    def test_one_key_more_or_less(self):
        for pair in PAIRS:
            self.falls({key: rows for key, rows in self.spans.items() if key != pair})
            self.falls({(9, 9) if key == pair else key: rows for key, rows in self.spans.items()})
        for key in ((3, 9), (0, 1), (1, 1), "x", None, (0, 0, 0), ()):
            self.falls({**self.spans, key: []})
            self.falls({**self.spans, key: [[]]})
        self.falls({})

    def test_letters_that_lead_elsewhere(self):
        for pair in PAIRS:
            for letters in ([("add", (0,)), "right"], [("add", (0,)), "left"], [("get", ())], [("add", (0,)), "right", 5],
                            [("add", (0,)), "left", 7], [("add", (1,)), "left", "!"], []):
                leads = letters in self.spans[pair] or any(
                    (a, b) == pair for a, b in self.come_by(letters))
                (self.stands if leads else self.falls)({**self.spans, pair: self.spans[pair] + [letters]})

    def come_by(self, letters):
        """The pairs come by behind the last of some letters."""
        if not letters:
            return [(0, 0)]
        ways = []
        for flow in (ONE, OTHER):
            number, held = state_of(flow, letters[:-1])
            ways.append([stop for stop, _ in plain_on(flow, number, tuple(held.values()), letters[-1])[1]])
        return list(zip(*ways))

    def test_too_few_rows(self):
        for pair in PAIRS:
            rows = self.spans[pair]
            for at in range(len(rows)):
                self.falls({**self.spans, pair: rows[:at] + rows[at + 1:]})
                self.falls({**self.spans, pair: rows[:at] + rows[at + 1:] + rows[:at]})
            self.falls({**self.spans, pair: []})

    def test_letters_that_are_not_due(self):
        for pair in PAIRS:
            for letters in ([("add", (97,))], [("add", ())], ["left"], [5], ["!"], [("add", (0,)), "up"], [None], [[]], [("add", [0])]):
                self.falls({**self.spans, pair: self.spans[pair] + [letters]})
                self.falls({**self.spans, pair: [letters + row for row in self.spans[pair]]})
                self.falls({**self.spans, pair: [row + letters for row in self.spans[pair]]})

    def test_anything(self):
        for thing in THINGS + [list(self.spans.items()), [self.spans], (self.spans,)]:
            self.falls(thing)
            for pair in ((0, 0), (8, 9)):
                self.falls({**self.spans, pair: thing})
                self.falls({**self.spans, pair: self.spans[pair] + [thing]} if thing != [] or pair != (0, 0) else {})
                self.falls({**self.spans, pair: self.spans[pair] + [[thing]]})
        for thing in spoiled(("add", (0,)), THINGS):
            if thing != ("add", (0,)) and thing != ("add", (1,)):
                rows = self.spans[2, 6] + [[thing]]
                leads = isinstance(thing, tuple) and len(thing) == 2 and thing[0] == "add" and type(thing[1]) is tuple
                leads = leads and len(thing[1]) == 1 and type(thing[1][0]) is int and 0 <= thing[1][0] < 97
                (self.stands if leads else self.falls)({**self.spans, (2, 6): rows})
        self.falls(nested(29, lambda thing: {"x": thing}))

    def test_tuples_for_lists(self):
        for pair in PAIRS:
            self.falls({**self.spans, pair: tuple(self.spans[pair])})
            self.falls({**self.spans, pair: [tuple(letters) for letters in self.spans[pair]]})

    def test_rows_that_are_nought_for_too_little(self):
        # with a paper that has fewer rows, more has to be shown than there is; with more, less
        fewer = {pair: rows[1:] for pair, rows in self.paper.items()}
        self.assertFalse(is_span(ONE, OTHER, fewer, self.spans))
        self.assertFalse(is_span(ONE, OTHER, PAPER, self.spans))
        self.assertFalse(is_span(ONE, OTHER, {**self.paper, (8, 9): ROWS}, self.spans))
        self.assertFalse(is_span(ONE, OTHER, {**self.paper, (3, 3): ()}, self.spans))
        self.assertFalse(is_span(ONE, OTHER, {**self.paper, (3, 3): ()}, {**self.spans, (3, 3): []}))
