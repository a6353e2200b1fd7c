"""Stage 15: logs, and [0.2] (g)."""

import copy
import unittest
from unittest import mock

from houses import (
    LIB, LIB_CODE, LIB_LATE, LIB_PRIME, LIB_TWICE, LIB_TWO, LIB_WIDE, MAIN, MAIN_CODE, MAIN_MORE, MAIN_SELF, TOP, TOP_BOX,
    some_deed, unit)
from onetrace.codetexts import coded_text
from onetrace.errors import BadLog, NoDeed, NoName, NoUnit, TraceError, Unlike
from onetrace.finding import found
from onetrace.flowruns import events_of
from onetrace.house import House
from onetrace.joins import same_paper
from onetrace.logs import first_wrong, log_of, replayed
from onetrace.papers import is_paper
from onetrace.written import Written
from onetrace.writtentexts import written_text
from plainpapers import rewritten_rows
from things import THINGS, kept, same, some

DEEDS = [
    ("put", "lib", LIB), ("put", "box", LIB_CODE), ("put", "main", MAIN), ("put", "other", MAIN_CODE), ("claim", "lib", "box"),
    ("claim", "main", "other"), ("put", "top", TOP), ("claim", "top", "top"), ("put", "lib", LIB_TWICE), ("put", "main", MAIN_SELF),
    ("put", "box", LIB), ("put", "lib", LIB_TWO), ("put", "zoo", LIB), ("drop", "zoo"),
    ("put", "box", LIB_LATE), ("drop", "box"),
]


def house_behind(deeds):
    house = House()
    house.all_done(deeds)
    return house


def with_row(log, at, *row):
    return [*log[:at], tuple(row), *log[at + 1:]]


class Logs(unittest.TestCase):
    def test_rows(self):
        log = kept(log_of, DEEDS)
        told = House().all_done(DEEDS)
        self.assertEqual(len(log), len(DEEDS))
        house = House()
        for row, deed, right in zip(log, DEEDS, told):
            house.all_done([deed])
            if deed[0] == "put":
                text = written_text(deed[2]) if isinstance(deed[2], Written) else coded_text(deed[2])
                self.assertTrue(same(row, ("put", deed[1], text, right)))
            elif deed[0] == "drop":
                self.assertEqual(row, deed)
            else:
                paper = found(house.whole(deed[1]), house.whole(deed[2]))[1]
                self.assertTrue(same(row, (*deed, paper)))
        words = [[word for _, word, _ in told] for told in told if isinstance(told, list)]
        self.assertEqual(words, [[], [], [], [], ["stays"] * 2, ["led"] * 3, ["stays", "renewed", "renewed"], ["led", "stays", "stays"],
                                 ["fell", "fell", "renewed"], ["stays"], ["stays"]])
        self.assertEqual(log_of([]), [])
        self.assertTrue(same(log_of(deeds=DEEDS[:3]), log[:3]))

    def test_refused_as_they_are(self):
        for deeds, error, field in (
            ([("put", "lib", LIB), ("drop", "box")], NoName, {"name": "box"}), ([("put", "lib", 0)], NoUnit, {}),
            ([("put", "lib", LIB), ("put", "box", LIB_TWO), ("claim", "lib", "box")], Unlike, {"letters": [("one", ())]}),
            ([("put", "lib", LIB), ("drop", "none"), ("none",)], NoDeed, {"at": 2}), ((), NoDeed, {"at": 0}), (None, NoDeed, {"at": 0}),
            ([("put", "lib", LIB, [])], NoDeed, {"at": 0}), ([["drop", "lib"]], NoDeed, {"at": 0}),
        ):
            with self.assertRaises(error) as caught:
                kept(log_of, deeds)
            self.assertIs(type(caught.exception), error)
            self.assertEqual(vars(caught.exception), field)

    def test_told_anew(self):
        log = log_of(DEEDS)
        right = copy.deepcopy(log)
        for row in log:
            if row[0] == "put":
                row[3].clear()
            elif row[0] == "claim":
                row[3].clear()
        self.assertTrue(same(log_of(DEEDS), right))


class Right(unittest.TestCase):
    def test_by_hand(self):
        log = log_of(DEEDS)
        for many in range(len(log) + 1):
            self.assertIsNone(kept(first_wrong, log[:many]))
        self.assertIsNone(first_wrong(log=[]))

    def test_nothing_is_found(self):
        log = log_of(DEEDS)
        with mock.patch("onetrace.finding.Search", side_effect=AssertionError):
            self.assertIsNone(first_wrong(log))
            self.assertEqual(first_wrong(with_row(log, 4, "claim", "lib", "main", log[4][3])), 4)
            with self.assertRaises(AssertionError):
                log_of(DEEDS)

    def test_other_papers_and_letters(self):
        chance = some(160)
        log = log_of(DEEDS)
        house = House()
        others = 0
        for at, (row, deed) in enumerate(zip(log, DEEDS)):
            house.all_done([deed])
            if row[0] == "claim":
                paper = {pair: rewritten_rows(chance, rows, 97) for pair, rows in row[3].items()}
                paper[3, 1] = ((1, *(0,) * (len(house.whole(row[1]).places()) + len(house.whole(row[2]).places()))),)
                if is_paper(house.whole(row[1]), house.whole(row[2]), paper):
                    others += 1
                    self.assertIsNone(first_wrong(with_row(log, at, *row[:3], paper)))
            elif row[0] == "put":
                for number, (told, word, why) in enumerate(row[3]):
                    if word != "fell":
                        self.assertIsNone(first_wrong(with_row(log, at, *row[:3], [
                            *row[3][:number], (told, word, {pair: rewritten_rows(chance, rows, 97) for pair, rows in why.items()}),
                            *row[3][number + 1:]])))
                        continue
                    one, other = [deed[1:] for deed in DEEDS if deed[0] == "claim"][told - 1]
                    for ahead in ([("main", (1,)) if one == "main" else ("get", ())], [*why], []):
                        letters = [*ahead, *why]
                        try:
                            parts = events_of(house.whole(one), letters) != events_of(house.whole(other), letters)
                        except TraceError:
                            parts = False
                        bent = with_row(log, at, *row[:3], [*row[3][:number], (told, word, letters), *row[3][number + 1:]])
                        self.assertEqual(first_wrong(bent), None if parts else at)
                        others += parts
        self.assertGreater(others, 4)

    def test_other_right_papers_of_one_flow(self):
        log = log_of([("put", "lib", LIB), ("claim", "lib", "lib"), ("put", "box", LIB)])
        house = house_behind([("put", "lib", LIB)])
        same_one = {pair: rows[::-1] + rows for pair, rows in same_paper(house.whole("lib")).items()}
        self.assertNotEqual(same_one, log[1][3])
        bent = with_row(log, 1, "claim", "lib", "lib", same_one)
        self.assertIsNone(first_wrong(bent))
        self.assertIsNone(first_wrong(with_row(bent, 2, *log[2][:3], [(1, "stays", same_one)])))

    def test_led_and_renewed(self):
        log = log_of(DEEDS)
        swap = {"led": "renewed", "renewed": "led"}
        bent = [(*row[:3], [(number, swap.get(word, word), why) for number, word, why in row[3]]) if row[0] == "put" else row for row in log]
        self.assertNotEqual(bent, log)
        self.assertIsNone(first_wrong(bent))
        for at, row in enumerate(log):
            if row[0] == "put":
                for number, (told, word, why) in enumerate(row[3]):
                    for other in ("stays", "led", "renewed", "fell"):
                        right = other == word or swap.get(word) == other
                        row = (*log[at][:3], [*log[at][3][:number], (told, other, why), *log[at][3][number + 1:]])
                        self.assertEqual(first_wrong(with_row(log, at, *row)), None if right else at)

    def test_chance(self):
        chance = some(161)
        lengths = 0
        for _ in range(40):
            house, deeds = House(), [("put", "lib", LIB), ("put", "box", LIB_TWICE), ("put", "main", chance.choice((MAIN, MAIN_MORE)))]
            house.all_done(deeds)
            for _ in range(15):
                deed = some_deed(chance)
                try:
                    house.all_done([deed])
                    deeds.append(deed)
                except TraceError:
                    if chance.random() < 0.2 and len(deeds) > 3:
                        house.undo()
                        deeds.pop()
            log = log_of(deeds)
            self.assertIsNone(first_wrong(log))
            self.assertTrue(replayed(log) == house)
            lengths += len(log)
            # an equality that is told twice, left out, or otherwise
            for at, row in enumerate(log):
                if row[0] == "put" and row[3]:
                    number = chance.randrange(len(row[3]))
                    fates = [[*row[3], row[3][number]], [*row[3][:number], *row[3][number + 1:]],
                             [(told + (told == row[3][number][0]), word, why) for told, word, why in row[3]]]
                    for told in fates:
                        self.assertEqual(first_wrong(with_row(log, at, *row[:3], told)), at)
        self.assertGreater(lengths, 300)


class Wrong(unittest.TestCase):
    def test_of_anything(self):
        log = log_of(DEEDS[:5])
        for thing in THINGS:
            if isinstance(thing, list) and not thing:
                continue
            self.assertEqual(kept(first_wrong, thing), 0)
            self.assertEqual(kept(first_wrong, [*log, thing, thing]), 5)
            self.assertEqual(first_wrong([thing, *log]), 0)
        self.assertEqual(first_wrong(tuple(log)), 0)
        self.assertEqual(first_wrong({"log": log}), 0)
        for row in (("undo",), ("drop",), ("drop", "lib", "box"), ("put", "lib"), ("claim", "lib", "box"), ("put", "lib", written_text(LIB)),
                    ("names", "lib"), ["drop", "lib"], ("drop", ["lib"])):
            self.assertEqual(first_wrong([*log[:2], row]), 2)

    def bends(self, log, at, places):
        """Each place of a row changed by itself to each of these things."""
        log = log[:at + 1]
        for spot, things in places:
            for thing in things:
                row = [*log[at][:spot], thing, *log[at][spot + 1:]]
                self.assertEqual(first_wrong(with_row(log, at, *row)), at, (at, spot, thing))
        self.assertEqual(first_wrong([*log[:at], list(log[at]), *log[at + 1:]]), at)
        self.assertEqual(first_wrong(with_row(log, at, *log[at], 0)), at)
        self.assertEqual(first_wrong(with_row(log, at, *log[at][:-1])), at)

    def test_each_thing_of_puts(self):
        log = log_of(DEEDS)
        texts = [*THINGS, *[written_text(told)[:-1] for told in (LIB, TOP)], written_text(LIB).replace("get", "gets"), "prime 97\ncells 0\n",
                 written_text(LIB_PRIME), written_text(LIB_WIDE), coded_text(LIB_CODE)[:-4], "prime 97\ncells", "prime 97\nhidden\n"]
        for at in (8, 11):
            self.assertEqual(log[at][0], "put")
            names = [thing for thing in THINGS if thing not in ("x", "name", "abcdefgh", "serve", "let")]
            self.bends(log, at, [(0, [*THINGS, "drop", "claim", "Put", "puts"]), (1, [*names, "Lib", "lib1"]), (2, texts), (3, THINGS)])
            told = log[at][3]
            self.assertGreater(len(told), 2)
            for bent in (tuple(told), told[:-1], told[1:], told[::-1], [*told, told[-1]], [told[0], *told], [told[1], told[0], *told[2:]], [],
                         dict(enumerate(told)), [list(fate) for fate in told], [*told[:-1], told[-1][:2]], [*told[:-1], (*told[-1], 0)]):
                self.assertEqual(first_wrong(with_row(log, at, *log[at][:3], bent)), at)
            for number, fate in enumerate(told):
                papers = [{}, {(0, 0): ()}, *THINGS[::2]]
                if fate[1] != "fell":
                    papers += [{pair: rows for pair, rows in fate[2].items() if pair != other} for other in fate[2]]
                    papers += [{**fate[2], pair: ()} for pair, rows in fate[2].items() if pair == (3, 3) and rows]
                    papers += [{**fate[2], (0, 0): [*fate[2][0, 0]]}, list(fate[2].items()), fate[2][0, 0], []]
                for spot, things in ((0, [thing for thing in [*THINGS, 4, fate[0] + 1, fate[0] - 1, True] if not (thing == fate[0] and thing is not True)]),
                                     (1, [*THINGS[::2], "stay", "Led", "fall", ("led",), ["fell"]]), (2, papers)):
                    for thing in things:
                        row = [*told[:number], (*fate[:spot], thing, *fate[spot + 1:]), *told[number + 1:]]
                        self.assertEqual(first_wrong([*log[:at], (*log[at][:3], row)]), at, (at, spot, thing))

    def test_papers_that_say_too_much(self):
        log = log_of([("put", "lib", LIB), ("put", "box", LIB_CODE), ("claim", "lib", "box"), ("put", "box", LIB_TWICE)])
        for at, paper in ((2, log[2][3]), (3, log[3][3][0][2])):
            width = len(paper[0, 0][0])
            for pair in paper:
                for row in ((0, 1, *(0,) * (width - 2)), (1, *(0,) * (width - 1)), (0,) * (width - 1), (0,) * (width + 1), (97, *(0,) * (width - 1))):
                    bent = {**paper, pair: (*paper[pair], row)}
                    row = (*log[2][:3], bent) if at == 2 else (*log[3][:3], [(1, "led", bent)])
                    told = first_wrong(with_row(log, at, *row))
                    if pair == (0, 0) or len(bent[pair][-1]) != width or bent[pair][-1][0] == 97:
                        self.assertEqual(told, at)
                for rows in (paper[pair][1:], ()):
                    if pair == (0, 0):
                        bent = {**paper, pair: rows}
                        row = (*log[2][:3], bent) if at == 2 else (*log[3][:3], [(1, "led", bent)])
                        self.assertEqual(first_wrong(with_row(log, at, *row)), at)

    def test_letters_that_do_not_part(self):
        log = log_of([("put", "lib", LIB), ("put", "box", LIB_CODE), ("claim", "lib", "box"), ("put", "box", LIB_LATE)])
        self.assertEqual(log[3][3], [(1, "fell", [("add", (1,)), ("add", (0,))])])
        for letters, right in (
            ([("add", (1,)), ("add", (0,))], True), ([("add", (3,)), ("add", (5,))], True), ([("add", (3,)), ("get", ()), ("add", (0,))], True),
            ([("add", (1,)), ("add", (0,)), ("one", ())], True), ([("one", ()), ("add", (1,)), ("add", (0,))], True),
            ([("add", (1,))], False), ([("add", (0,)), ("add", (1,))], False), ([], False), ([("add", (1,)), ("add", (97,))], False),
            ([("add", (1,)), ("add", (True,))], False), ([("add", (True,)), ("add", (0,))], False), ([("add", [1]), ("add", (0,))], False),
            ([["add", (1,)], ("add", (0,))], False), (([("add", (1,)), ("add", (0,)), ("none", ())]), False), (([("add", (1,)), ("add", (0,)), 7]), False),
            ((("add", (1,)), ("add", (0,))), False), ([("add", (1,)), ("add", (0,)), []], False), ([("get", ())] * 500 + [("add", (1,)), ("add", (0,))], True),
            *[(thing, False) for thing in THINGS],
        ):
            bent = with_row(log, 3, *log[3][:3], [(1, "fell", letters)])
            self.assertEqual(kept(first_wrong, bent), None if right else 3, letters)

    def test_each_thing_of_claims_and_drops(self):
        log = log_of(DEEDS)
        for at in (4, 5, 7):
            self.assertEqual(log[at][0], "claim")
            paper = log[at][3]
            forged = [{**paper, (0, 0): (*paper[0, 0], (1, *(0,) * (len(paper[0, 0][0]) - 1)))}, {(0, 0): ()}, {}, list(paper.items()),
                      *[{pair: rows for pair, rows in paper.items() if pair != other} for other in paper]]
            self.bends(log, at, [(0, [*THINGS, "put", "drop", "claims"]), (1, [*THINGS, "none", "zoo"]), (2, [*THINGS, "none", "zoo"]), (3, [*THINGS, *forged])])
        # of unlike ones, of other deeds, of others that are alike
        for one, other in (("lib", "main"), ("main", "lib"), ("top", "lib")):
            self.assertEqual(first_wrong(with_row(log, 7, "claim", one, other, log[7][3])), 7)
        self.assertEqual(first_wrong(with_row(log, 4, "claim", "box", "lib", log[4][3])), 4)
        log = log_of([*DEEDS[:2], ("drop", "box"), ("put", "box", LIB)])
        self.bends(log, 2, [(0, THINGS), (1, [*THINGS, "none", "boxx"])])
        # asked, or claimed
        log = log_of(DEEDS[:5])
        self.assertEqual(first_wrong([*log, ("drop", "lib")]), 5)
        self.assertEqual(first_wrong([*log, ("drop", "box")]), 5)

    def test_forged_claims(self):
        # unlike ones have no paper
        chance = some(162)
        log = log_of([("put", "lib", LIB), ("put", "box", LIB_TWO)])
        house = house_behind([("put", "lib", LIB), ("put", "box", LIB_CODE)])
        paper = found(house.whole("lib"), house.whole("box"))[1]
        for forged in (paper, found(house.whole("lib"), house.whole("lib"))[1], same_paper(house.whole("lib"))):
            self.assertEqual(first_wrong([*log, ("claim", "lib", "box", forged)]), 2)
            forged = {pair: rewritten_rows(chance, rows, 97) for pair, rows in forged.items()}
            self.assertEqual(first_wrong([*log, ("claim", "lib", "box", forged)]), 2)

    def test_order(self):
        log = log_of(DEEDS)
        wrong = 0
        for at in range(len(log) - 1):
            bent = [*log[:at], log[at + 1], log[at], *log[at + 2:]]
            told = first_wrong(bent)
            self.assertTrue(told is None or told >= at)
            wrong += told is not None
        self.assertGreater(wrong, 6)
        self.assertEqual(first_wrong(log[1:]), 1)
        # a row left out that claims: from then on there is one number less
        self.assertEqual(first_wrong([*log[:4], *log[5:]]), 5)
        # a claim made twice has a number of its own
        self.assertEqual(first_wrong([*log[:5], log[4], *log[5:]]), 7)

    def test_a_unit_put_again(self):
        log = log_of([("put", "lib", LIB), ("claim", "lib", "lib"), ("put", "lib", LIB), ("put", "lib", LIB_LATE)])
        self.assertEqual([row[3][0][1] for row in log[2:]], ["stays", "renewed"])
        for at, words in ((2, ("led", "renewed", "fell")), (3, ("stays", "fell"))):
            for word in words:
                self.assertEqual(first_wrong(with_row(log, at, *log[at][:3], [(1, word, log[at][3][0][2])])), at)


class Replayed(unittest.TestCase):
    def test_by_hand(self):
        log = log_of(DEEDS)
        house = house_behind(DEEDS)
        told = kept_house(log)
        self.assertTrue(told == house)
        self.assertTrue(told.history() == house.history())
        self.assertTrue(same(told.standing(), house.standing()))
        self.assertTrue(replayed(log=log[:4]) == house_behind(DEEDS[:4]))
        self.assertTrue(replayed([]) == House())
        # it goes on as that does
        while house.undo():
            self.assertTrue(told.undo())
            self.assertTrue(told == house)
        self.assertFalse(told.undo())

    def test_led_and_renewed(self):
        log = log_of(DEEDS)
        at = [row[0] == "put" and "led" in [word for _, word, _ in row[3]] for row in log].index(True)
        bent = with_row(log, at, *log[at][:3], [(number, "renewed", why) for number, _, why in log[at][3]])
        self.assertTrue(replayed(bent) == house_behind(DEEDS))

    def test_refusals(self):
        log = log_of(DEEDS)
        for bent, row in ((log[1:], 1), (tuple(log), 0), ([*log, 0], len(log)), (with_row(log, 4, "claim", "lib", "box", {}), 4), (None, 0)):
            with self.assertRaises(BadLog) as caught:
                kept(replayed, bent)
            self.assertTrue(same(caught.exception.row, row))
            self.assertEqual(first_wrong(bent), row)


def kept_house(log):
    ahead = copy.deepcopy(log)
    house = replayed(log)
    assert same(log, ahead)
    return house


if __name__ == "__main__":
    unittest.main()
