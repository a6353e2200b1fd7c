"""Stage 14: the house, [0.2] (d), (f) and (g)."""

import copy
import unittest

from houses import (
    LIB, LIB_CODE, LIB_LATE, LIB_LESS, LIB_PRIME, LIB_TWICE, LIB_TWO, LIB_WIDE, MAIN, MAIN_CODE, MAIN_MORE, MAIN_SELF, MAIN_WORD,
    POOL, TOP, TOP_BOX, TOP_ROUND, PlainHouse, some_deed, unit, whole_of)
from onetrace.coded import Coded
from onetrace.errors import (
    Asked, Claimed, NoDeed, NoName, NoPair, NoUnit, Round, TooMany, TraceError, Unlike)
from onetrace.finding import found
from onetrace.flowruns import events_of
from onetrace.house import House
from onetrace.leading import flow_of
from onetrace.linking import linked
from onetrace.papers import is_paper
from onetrace.written import Written
from runs import Keeper, next_letter, plain_kept
from things import THINGS, kept, same, some

FIELDS = {"NoName": "name", "Round": "name", "Asked": "name", "Claimed": "number", "Unlike": "letters", "NoDeed": "at"}


def house_of(**units):
    """A house with these units, put in this order."""
    house = House()
    for name, told in units.items():
        house.put(name, told)
    return house


def shown(house):
    """All that a house tells of itself."""
    return copy.deepcopy((
        house.names(), [house.whole(name).steps() for name in house.names()], house.standing(), len(house.history()),
        [deed[:2] for deed in house.history()], house.notes()))


def answer(function, *things):
    """What is told, or ("refused", word, field)."""
    try:
        return function(*things)
    except TraceError as caught:
        word = type(caught).__name__
        return "refused", word, getattr(caught, FIELDS.get(word, "none"), None)


class Checks(unittest.TestCase):
    def refuses(self, error, house, deed, field=None):
        """A deed is refused, and all is as it was."""
        ahead = shown(house)
        twin = house.twin()
        with self.assertRaises(error) as caught:
            getattr(house, deed[0])(*deed[1:])
        self.assertIs(type(caught.exception), error)
        if error.__name__ in FIELDS:
            self.assertTrue(same(getattr(caught.exception, FIELDS[error.__name__]), field), vars(caught.exception))
        self.assertEqual(shown(house), ahead)
        self.assertTrue(house == twin)


class Units(Checks):
    def test_names_and_units(self):
        house = House()
        self.assertEqual((house.names(), house.standing(), house.history(), house.notes()), ([], {}, [], []))
        self.assertEqual(house.put("lib", LIB), [])
        self.assertEqual(house.put(name="main", unit=MAIN), [])
        self.assertEqual(house.put("box", LIB_CODE), [])
        self.assertEqual(house.names(), ["box", "lib", "main"])
        self.assertTrue(house.unit("lib") == LIB and house.unit(name="box") == LIB_CODE)
        self.assertEqual(house.put("lib", LIB_TWO), [])
        self.assertTrue(house.unit("lib") == LIB_TWO)
        self.assertIsNone(house.drop("box"))
        self.assertIsNone(house.drop(name="main"))
        self.assertEqual(house.names(), ["lib"])
        for name in [*THINGS, "box", "main", "libs", "Lib"]:
            for function in (house.unit, house.whole):
                with self.assertRaises(NoName) as caught:
                    function(name)
                self.assertTrue(same(caught.exception.name, name))

    def test_wholes(self):
        house = house_of(lib=LIB, main=MAIN, top=TOP)
        self.assertTrue(house.whole("lib") == flow_of(LIB))
        self.assertTrue(house.whole("main") == linked(flow_of(MAIN), "lib", flow_of(LIB)))
        # in order of names: lib, then main with a lib of its own
        right = linked(linked(flow_of(TOP), "lib", flow_of(LIB)), "main", house.whole("main"))
        self.assertTrue(house.whole(name="top") == right)
        self.assertEqual(house.whole("top").places(), ("v1", "v2", "lib.sum", "lib.v1", "main.v1", "main.v2", "main.lib.sum", "main.lib.v1"))
        # what main adds isn't in the lib that top asks
        self.assertEqual(events_of(house.whole("top"), [("run", ()), 5])[0][2:], [("out", 6), ("out", 5), ("out", 1), ("done", 0)])
        self.assertEqual(events_of(house.whole("top"), [("run", ()), 5, ("run", ()), 7])[0][-4:], [("out", 8), ("out", 12), ("out", 2), ("done", 0)])
        # askers are other ones, too, where what they ask is put anew
        house.put("lib", LIB_TWO)
        self.assertEqual(events_of(house.whole("top"), [("run", ()), 5])[0][2:], [("out", 7), ("out", 5), ("out", 1), ("done", 0)])
        house.undo()
        self.assertTrue(house.whole("top") == right)

    def test_wholes_beside(self):
        chance = some(140)
        for _ in range(60):
            lib, box, main = chance.choice(POOL[:5]), chance.choice(POOL[:5]), chance.choice(POOL[8:13])
            top = chance.choice((TOP, TOP_BOX))
            house = house_of(lib=lib, box=box, main=main, top=top)

            def keeper(unit, **inner):
                return Keeper(flow_of(unit), inner)

            def make():
                return keeper(top, lib=keeper(lib), box=keeper(box), main=keeper(main, lib=keeper(lib), box=keeper(box)))
            letters = []
            for _ in range(chance.randint(0, 9)):
                letters.append(next_letter(chance, house.whole("top"), plain_kept(make, letters)[2]))
            self.assertEqual(("run", *events_of(house.whole("top"), letters)), plain_kept(make, letters))

    def test_asks_that_are_never_done(self):
        # they count as all others do
        never = unit("hidden\ndeed main a\nreturn a\nask n lib add a\nend")
        self.refuses(NoName, House(), ("put", "main", never), "lib")
        house = house_of(lib=LIB, main=never)
        self.assertEqual(house.whole("main").places(), ("v1", "v2", "lib.sum", "lib.v1"))
        self.refuses(Asked, house, ("drop", "lib"), "main")
        self.refuses(NoPair, house, ("put", "lib", LIB_WIDE))


class Refusals(Checks):
    def test_names(self):
        house = house_of(lib=LIB)
        house.claim("lib", "lib")
        for name in [*(thing for thing in THINGS if thing not in ("x", "name", "abcdefgh", "serve", "let")), "Lib", "lib ", "lib1", ""]:
            for told in (LIB, MAIN, None):
                self.refuses(NoName, house, ("put", name, told), name)
            self.refuses(NoName, house, ("drop", name), name)
            self.refuses(NoName, house, ("claim", name, "lib"), name)
            self.refuses(NoName, house, ("claim", "lib", name), name)
            self.refuses(NoName, house, ("claim", name, "none"), name)
        self.refuses(NoName, house, ("drop", "none"), "none")
        self.refuses(NoName, house, ("claim", "none", "some"), "none")
        self.refuses(NoName, house, ("claim", "lib", "some"), "some")

    def test_units(self):
        house = house_of(lib=LIB)
        for thing in [*THINGS, flow_of(LIB), House()]:
            for name in ("lib", "box"):
                self.refuses(NoUnit, house, ("put", name, thing))

    def test_asked_units(self):
        house = house_of(lib=LIB)
        asks = unit("hidden\ndeed main a\nask n zoo one\nask n top main a\nask n lib one\nask n box one\nend")
        # rising, and the one that is put counts as here, though it would ask itself
        self.refuses(NoName, house, ("put", "main", asks), "box")
        house.put("box", LIB)
        self.refuses(NoName, house, ("put", "main", asks), "top")
        self.refuses(NoName, house, ("put", "top", asks), "zoo")
        self.refuses(NoName, House(), ("put", "zoo", asks), "box")
        house.put("zoo", LIB)
        self.refuses(Round, house, ("put", "top", asks), "top")

    def test_rounds(self):
        own = unit("hidden\ndeed main a\nask n main main a\nend")
        self.refuses(Round, House(), ("put", "main", own), "main")
        self.refuses(Round, house_of(lib=LIB, main=MAIN), ("put", "main", own), "main")
        # through others, whatever they have
        house = house_of(lib=LIB, main=MAIN, top=TOP)
        self.refuses(Round, house, ("put", "lib", TOP_ROUND), "lib")
        asks = unit("hidden\ndeed main a\nask n top nodeed a\nend", 89)
        self.refuses(Round, house, ("put", "main", asks), "main")
        house.put("box", TOP_ROUND)
        self.refuses(Round, house, ("put", "main", MAIN_MORE), "main")

    def test_pairs(self):
        house = house_of(lib=LIB)
        for row in ("ask n lib none", "ask n lib add", "ask n lib add a a", "ask n lib get a", "ask n lib one a"):
            self.refuses(NoPair, house, ("put", "main", unit(f"hidden\ndeed main a\n{row}\nend")))
        self.refuses(NoPair, house, ("put", "main", unit("hidden\ndeed main a\nask n lib one\nend", 89)))
        house.put("main", MAIN)
        # what is asked of it
        for told in (LIB_LESS, LIB_WIDE, LIB_PRIME):
            self.refuses(NoPair, house, ("put", "lib", told))
        house.put("lib", LIB_LATE)
        house.put("box", LIB_WIDE)
        self.refuses(NoPair, house, ("claim", "lib", "box"))
        house.put("box", LIB_PRIME)
        self.refuses(NoPair, house, ("claim", "lib", "box"))
        house.put("box", LIB_LESS)
        self.refuses(NoPair, house, ("claim", "lib", "box"))
        self.refuses(NoPair, house, ("claim", "box", "main"))

    def test_pairs_of_equalities(self):
        house = house_of(lib=LIB, box=LIB_CODE)
        house.claim("lib", "box")
        for name in ("lib", "box"):
            for told in (LIB_LESS, LIB_WIDE, LIB_PRIME):
                self.refuses(NoPair, house, ("put", name, told))
        # of one name twice both are of the same deeds and prime
        house = house_of(lib=LIB)
        house.claim("lib", "lib")
        for told in (LIB_LESS, LIB_WIDE, LIB_PRIME):
            [(number, word, why)] = house.put("lib", told)
            self.assertEqual((number, word, why), (1, "renewed", found(flow_of(told), flow_of(told))[1]))

    def test_dropped(self):
        house = house_of(lib=LIB, box=LIB_CODE, zoo=LIB, main=MAIN_MORE, top=TOP)
        house.claim("zoo", "box")
        house.claim("box", "lib")
        self.refuses(Asked, house, ("drop", "lib"), "main")
        self.refuses(Asked, house, ("drop", "box"), "main")
        self.refuses(Asked, house, ("drop", "main"), "top")
        self.refuses(Claimed, house, ("drop", "zoo"), 1)
        house.drop("top")
        house.drop("main")
        self.refuses(Claimed, house, ("drop", "lib"), 2)
        self.refuses(Claimed, house, ("drop", "box"), 1)
        # what fell holds nothing any more
        house.put("box", LIB_LATE)
        house.drop("box")
        house.drop("lib")
        self.assertEqual(house.names(), ["zoo"])

    def test_the_first_that_asks(self):
        # rising by names, whichever came first
        house = house_of(lib=LIB, zoo=MAIN, top=MAIN_CODE, main=MAIN)
        self.refuses(Asked, house, ("drop", "lib"), "main")
        house.drop("main")
        self.refuses(Asked, house, ("drop", "lib"), "top")
        house.put("top", LIB)
        self.refuses(Asked, house, ("drop", "lib"), "zoo")

    def test_deeds_in_any_order(self):
        turned = Coded(LIB_CODE.hidden(), LIB_CODE.deeds()[::-1])
        house = house_of(lib=LIB, box=LIB_CODE, zoo=turned, top=LIB_TWICE)
        for one, other in (("lib", "zoo"), ("zoo", "box"), ("top", "zoo"), ("top", "lib")):
            house.claim(one, other)
        self.assertEqual([word for _, word, _ in house.put("box", turned)], ["stays", "led", "stays", "stays"])
        self.assertEqual([word for _, word, _ in house.put("lib", turned)], ["led", "stays", "stays", "led"])

    def test_unlike(self):
        house = house_of(lib=LIB, box=LIB_TWO, zoo=LIB_LATE)
        self.refuses(Unlike, house, ("claim", "lib", "box"), [("one", ())])
        self.refuses(Unlike, house, ("claim", "zoo", "lib"), [("add", (1,)), ("add", (0,))])
        house.put("main", MAIN)
        house.put("top", unit("hidden\ndeed main a\nout 1+a\nask n box add a\nreturn 1+n\nend"))
        self.refuses(Unlike, house, ("claim", "main", "top"), [("main", (0,))])

    def test_signs(self):
        names = ["a" * 8, "b" * 8, "c" * 8, "d" * 8]

        def asks(name):
            return unit(f"hidden\ndeed go\nask n {name} go\nend")

        def keeps(many):
            return unit(f"hidden {'x' * many}\ndeed go\nend")
        house = house_of(**{names[3]: keeps(4)})
        for one, other in ((2, 3), (1, 2), (0, 1)):
            house.put(names[one], asks(names[other]))
        house.put("main", asks(names[0]))
        self.assertEqual(house.whole("main").places()[-1], ".".join(names) + ".xxxx")
        # its own whole could have it, and so could those of all others, but not main's
        ahead = house.twin()
        self.refuses(TooMany, house, ("put", names[3], keeps(5)))
        house.drop("main")
        house.put(names[3], keeps(5))
        self.refuses(TooMany, house, ("put", "main", asks(names[0])))
        ahead.drop("main")
        self.assertFalse(house == ahead)

    def test_places(self):
        def keeps(many):
            return unit(f"hidden {' '.join(['x', 'y', 'z'][:many])}\ndeed go\nend")

        def code(cells):
            return unit(f"cells {cells}\ndeed go 0\nret\nend")
        names = ["aa", "bb", "cc", "dd", "ee", "ff"]
        rows = "\n".join(f"ask n {name} go" for name in names)
        main = unit(f"hidden x y z\ndeed go\n{rows}\nask n gg go\nend")
        # 4 of its own, 15 of each, and those of gg
        for many in range(4):
            house = house_of(**{name: code(3) for name in names}, gg=keeps(many))
            house.put("main", main)
            self.assertEqual(len(house.whole("main").places()), 94 + many)
        self.refuses(TooMany, house, ("put", "gg", code(0)))
        house = house_of(**{name: code(3) for name in names}, gg=code(0))
        self.refuses(TooMany, house, ("put", "main", main))
        house.put("aa", code(0))
        house.put("bb", code(0))
        house.put("main", main)
        self.assertEqual(len(house.whole("main").places()), 100)
        self.refuses(TooMany, house, ("put", "aa", code(1)))

    def test_steps(self):
        deeds = [f"deed {name}\n" + f"ask n lib go {at}\n" * 15 + "end" for at, name in enumerate(("a", "b", "c", "d"))]
        main = unit("hidden\n" + "\n".join(deeds))

        def code(many):
            return Coded(0, (("go", 1, (("out", "a"),) * many + (("ret",),)),))
        house = house_of(lib=code(100))
        size = len(flow_of(code(100))) - 100
        own = len(flow_of(main))
        most = (10000 - own) // 60 - size
        house.put("main", main)
        house.put("lib", code(most))
        self.refuses(TooMany, house, ("put", "lib", code(most + 1)))

    def test_the_first_told_comes(self):
        house = house_of(lib=LIB, box=LIB, main=MAIN, top=TOP)
        house.claim("lib", "box")
        self.refuses(NoName, house, ("put", "Lib", None), "Lib")
        self.refuses(NoName, house, ("put", "Lib", MAIN), "Lib")
        # no unit there, a round, another prime, a deed that isn't there
        self.refuses(NoName, house, ("put", "lib", unit("hidden\ndeed go\nask n zoo go\nask n top none\nend", 89)), "zoo")
        self.refuses(Round, house, ("put", "lib", unit("hidden\ndeed go\nask n top none\nend", 89)), "lib")
        # a pair that can't be, and too many signs
        names = ["a" * 8, "b" * 8, "c" * 8, "d" * 8]
        house = house_of(**{names[3]: unit("hidden xxxx\ndeed go\nend")})
        for name, other in ((names[2], names[3]), (names[1], names[2]), (names[0], names[1]), ("main", names[0])):
            house.put(name, unit(f"hidden\ndeed go\nask n {other} go\nend"))
        house.put("lib", unit("hidden xxxx\ndeed go\nend"))
        house.claim(names[3], "lib")
        self.refuses(TooMany, house, ("put", names[3], unit("hidden xxxxx\ndeed go\nend")))
        self.refuses(NoPair, house, ("put", names[3], unit("hidden xxxxx\ndeed go\nend\ndeed on\nend")))
        self.refuses(NoPair, house, ("put", names[3], unit("hidden xxxxx\ndeed on\nend")))
        # asked, then claimed
        self.refuses(Asked, house, ("drop", names[3]), names[2])
        # names, then pairs, then what parts
        self.refuses(NoName, house, ("claim", "main", "none"), "none")


class Equalities(Checks):
    def test_numbers(self):
        house = house_of(lib=LIB, box=LIB_TWICE, zoo=LIB_CODE)
        self.assertEqual(house.claim("lib", "box"), 1)
        self.assertEqual(house.claim(one="box", other="zoo"), 2)
        self.assertEqual(house.claim("lib", "lib"), 3)
        self.assertEqual(house.claim("lib", "box"), 4)
        told = house.standing()
        self.assertEqual(list(told), [1, 2, 3, 4])
        self.assertEqual([told[number][:2] for number in told], [("lib", "box"), ("box", "zoo"), ("lib", "lib"), ("lib", "box")])
        for one, other, paper in told.values():
            self.assertEqual(paper, found(house.whole(one), house.whole(other))[1])
        # those that fell count, those that were taken back don't
        self.assertEqual([told[1] for told in house.put("lib", LIB_TWO)], ["fell", "stays", "renewed", "fell"])
        self.assertEqual(list(house.standing()), [2, 3])
        self.assertEqual(house.claim("zoo", "box"), 5)
        self.assertTrue(house.undo())
        self.assertEqual(house.claim("zoo", "zoo"), 5)
        self.assertEqual(list(house.standing()), [2, 3, 5])
        for _ in range(2):
            self.assertTrue(house.undo())
        self.assertEqual(list(house.standing()), [1, 2, 3, 4])
        self.assertTrue(house.undo())
        self.assertEqual(house.claim("zoo", "lib"), 4)
        self.assertEqual(house.standing()[4][:2], ("zoo", "lib"))

    def test_stays(self):
        house = house_of(lib=LIB, box=LIB_TWICE, main=MAIN)
        house.claim("lib", "box")
        paper = house.standing()[1][2]
        for name, told in (("main", MAIN_SELF), ("zoo", LIB), ("lib", LIB), ("box", LIB_TWICE), ("lib", copy.deepcopy(LIB))):
            self.assertTrue(same(house.put(name, told), [(1, "stays", paper)]))
        self.assertTrue(same(house.standing()[1], ("lib", "box", paper)))

    def test_led_renewed_fell(self):
        house = house_of(lib=LIB, box=LIB_TWICE)
        house.claim("lib", "box")
        for told, word in ((LIB_CODE, "led"), (LIB, "led"), (LIB_TWICE, "led")):
            [fate] = house.put("lib", told)
            self.assertTrue(same(fate, (1, word, found(flow_of(told), flow_of(LIB_TWICE))[1])))
            self.assertTrue(is_paper(house.whole("lib"), house.whole("box"), fate[2]))
        self.assertTrue(same(house.put("lib", LIB_LATE), [(1, "fell", [("add", (1,)), ("add", (0,))])]))
        self.assertEqual((house.standing(), house.put("lib", LIB)), ({}, []))
        house.undo()
        house.undo()
        self.assertEqual(list(house.standing()), [1])

    def test_in_open_units(self):
        house = house_of(lib=LIB, box=LIB_TWICE, main=MAIN, other=MAIN_CODE)
        house.claim("main", "other")
        # alike, whatever lib does
        self.assertEqual(house.put("main", MAIN_CODE)[0][1], "led")
        # alike with this lib alone
        self.assertEqual(house.put("main", MAIN_SELF)[0][1], "renewed")
        self.assertEqual(house.put("main", MAIN)[0][1], "renewed")
        # lib is another one in both: it does otherwise, but both do so alike
        [(_, word, paper)] = house.put("lib", LIB_LATE)
        self.assertEqual((word, paper), ("renewed", found(house.whole("main"), house.whole("other"))[1]))
        house.undo()
        self.assertEqual(house.put("lib", LIB_TWICE)[0][1], "led")
        self.assertEqual(house.put("lib", LIB_CODE)[0][1], "led")
        # with a lib of which one is 2 it does otherwise by itself
        self.assertEqual(house.put("main", MAIN_SELF)[0][1], "renewed")
        self.assertTrue(same(house.put("lib", LIB_TWO), [(1, "fell", [("main", (0,))])]))

    def test_units_that_were_not_in_them(self):
        # box comes to be in main's whole, and counts for nothing
        house = house_of(lib=LIB, box=LIB, main=MAIN, other=MAIN)
        never = unit("hidden\ndeed main a\nask n lib one\nout a+n\nask n lib add a\nreturn n\nask n box one\nend")
        house.claim("main", "other")
        self.assertEqual(house.put("main", never)[0][1], "led")
        self.assertIn("box.sum", house.whole("main").places())
        # from now on it is in it
        self.assertEqual(house.put("box", LIB_TWO)[0][1], "renewed")
        self.assertEqual(house.put("box", LIB_TWO)[0][1], "stays")
        self.assertEqual(house.put("main", MAIN)[0][1], "led")
        self.assertEqual(house.put("box", LIB)[0][1], "stays")
        self.assertEqual(house.put("main", MAIN_MORE)[0][1], "renewed")
        self.assertEqual(house.put("box", LIB_CODE)[0][1], "led")

    def test_deep_in_the_wholes(self):
        house = house_of(lib=LIB, box=LIB_TWICE, main=MAIN, top=TOP, over=TOP_BOX)
        self.assertEqual(house.claim("top", "over"), 1)
        self.assertEqual(house.claim("main", "main"), 2)
        self.assertEqual(house.claim("box", "box"), 3)
        self.assertEqual([word for _, word, _ in house.put("lib", LIB_CODE)], ["led", "led", "stays"])
        self.assertEqual([word for _, word, _ in house.put("main", MAIN_SELF)], ["renewed", "renewed", "stays"])
        self.assertEqual([word for _, word, _ in house.put("box", LIB_TWO)], ["renewed", "stays", "renewed"])
        told = house.put("lib", LIB_LATE)
        self.assertEqual([word for _, word, _ in told], ["fell", "renewed", "stays"])
        self.assertEqual(told[0][2], found(house.whole("top"), house.whole("over"))[1])
        self.assertEqual([number for number, _, _ in house.put("lib", LIB)], [2, 3])
        for _ in range(2):
            house.undo()
        self.assertEqual(list(house.standing()), [1, 2, 3])

    def test_alike_ones_for_one_another(self):
        # alike units in what asks them, and alike askers
        for lib, other in ((LIB, LIB_TWICE), (LIB_CODE, LIB), (LIB_TWICE, LIB_CODE)):
            for main, more in ((MAIN, MAIN_CODE), (MAIN_CODE, MAIN)):
                house = house_of(lib=lib, main=main, top=TOP)
                ahead = house.whole("top")
                house.claim("top", "top")
                self.assertEqual(house.put("lib", other)[0][1], "led")
                self.assertEqual(house.put("main", more)[0][1], "led")
                self.assertEqual(found(ahead, house.whole("top"))[0], "like")

    def test_undo(self):
        house = House()
        self.assertIs(house.undo(), False)
        states = [shown(house)]
        for deed in (("put", "lib", LIB), ("put", "box", LIB_CODE), ("put", "main", MAIN), ("claim", "lib", "box"), ("put", "lib", LIB_TWICE),
                     ("claim", "main", "main"), ("put", "box", LIB_TWO), ("drop", "box"), ("put", "lib", LIB_LATE), ("drop", "main")):
            if deed[0] == "drop" and deed[1] == "main":
                self.refuses(Claimed, house, deed, 2)
                continue
            getattr(house, deed[0])(*deed[1:])
            states.append(shown(house))
        while len(states) > 1:
            self.assertEqual(shown(house), states.pop())
            self.assertIs(house.undo(), True)
        self.assertEqual(shown(house), states[0])
        self.assertIs(house.undo(), False)
        self.assertTrue(house == House())

    def test_history(self):
        house = house_of(lib=LIB, box=LIB_CODE)
        house.claim("lib", "box")
        house.put("lib", LIB)
        house.put("lib", LIB_TWO)
        house.drop("box")
        right = [("put", "lib", LIB), ("put", "box", LIB_CODE), ("claim", "lib", "box"), ("put", "lib", LIB), ("put", "lib", LIB_TWO), ("drop", "box")]
        self.assertTrue(house.history() == right)
        self.assertTrue(all(type(deed) is tuple for deed in house.history()))
        house.undo()
        self.assertTrue(house.history() == right[:-1])
        # a house that does them is the same
        other = House()
        other.all_done(right[:-1])
        self.assertTrue(house == other)
        self.assertTrue(other.history() == right[:-1])


class AllDone(Checks):
    def test_by_hand(self):
        house = House()
        deeds = [("put", "lib", LIB), ("put", "box", LIB_CODE), ("claim", "lib", "box"), ("put", "zoo", LIB), ("claim", "zoo", "zoo"),
                 ("put", "box", LIB_TWO), ("drop", "box")]
        told = house.all_done(deeds=deeds)
        paper = found(flow_of(LIB), flow_of(LIB_CODE))[1]
        own = found(flow_of(LIB), flow_of(LIB))[1]
        self.assertTrue(same(told, [[], [], 1, [(1, "stays", paper)], 2, [(1, "fell", [("one", ())]), (2, "stays", own)], None]))
        self.assertEqual(house.notes(), [("begin", 7), ("end", True)])
        self.assertEqual(house.all_done([]), [])
        self.assertEqual(house.notes(), [("begin", 7), ("end", True), ("begin", 0), ("end", True)])
        # each can be taken back by itself
        house.undo()
        self.assertEqual(house.names(), ["box", "lib", "zoo"])
        self.assertEqual(len(house.history()), 6)
        self.assertEqual(len(house.notes()), 4)

    def test_all_or_none(self):
        house = house_of(lib=LIB, box=LIB_CODE)
        house.claim("lib", "box")
        for deeds, error, field in (
            ([("put", "main", MAIN), ("put", "box", LIB_TWO), ("drop", "none")], NoName, "none"),
            ([("put", "main", MAIN), ("drop", "lib")], Asked, "main"),
            ([("put", "lib", LIB_TWO), ("claim", "lib", "box")], Unlike, [("one", ())]),
            ([("put", "zoo", 0)], NoUnit, None),
            ([("drop", "box")], Claimed, 1),
            ([("put", "main", MAIN), ("put", "lib", TOP_ROUND)], NoName, "top"),
            ([("put", "main", MAIN), ("put", "lib", unit("hidden\ndeed go\nask n main main 1\nend"))], Round, "lib"),
            ([("claim", "lib", "box"), ("put", "lib", LIB_WIDE)], NoPair, None),
            ([("put", [], {})], NoName, []),
            ([("claim", "lib", "box"), ("claim", "lib", None)], NoName, None),
        ):
            ahead, notes = shown(house)[:-1], house.notes()
            with self.assertRaises(error) as caught:
                kept(house.all_done, deeds)
            self.assertIs(type(caught.exception), error)
            if field is not None:
                self.assertTrue(same(getattr(caught.exception, FIELDS[error.__name__]), field))
            self.assertEqual(shown(house)[:-1], ahead)
            self.assertEqual(house.notes(), [*notes, ("begin", len(deeds)), ("end", False)])
        self.assertEqual(house.claim("lib", "box"), 2)

    def test_no_deeds(self):
        house = house_of(lib=LIB)
        house.claim("lib", "lib")
        right = [("put", "box", LIB), ("drop", "none"), ("claim", "lib", "lib")]
        for thing in [thing for thing in THINGS if not isinstance(thing, list)] + [tuple(right), {"put": 1}]:
            self.refuses(NoDeed, house, ("all_done", thing), 0)
        for wrong in [*THINGS, list(right[0]), ("put", "box"), ("put", "box", LIB, 0), ("drop",), ("drop", "lib", "box"), ("claim", "lib"),
                      ("claim", "lib", "lib", {}), ("undo",), ("Put", "box", LIB), ("put ", "box", LIB), (["put"], "box", LIB), (0, 1, 2),
                      ("names",), ("", "x", "y"), (True, "box")]:
            if wrong == []:
                continue
            self.refuses(NoDeed, house, ("all_done", [wrong]), 0)
            # ahead of all else: what is ahead of it would be refused, too
            self.refuses(NoDeed, house, ("all_done", [*right, wrong, wrong]), 3)
        self.refuses(NoDeed, house, ("all_done", [[]]), 0)
        self.assertEqual(house.notes(), [])
        # by its word and how many things it has alone
        self.assertEqual(answer(house.all_done, [("put", 0, 0)]), ("refused", "NoName", 0))
        self.assertEqual(house.notes(), [("begin", 1), ("end", False)])


class Twins(Checks):
    def test_twin(self):
        house = house_of(lib=LIB, box=LIB_CODE)
        house.all_done([("claim", "lib", "box"), ("put", "main", MAIN)])
        twin = house.twin()
        self.assertTrue(twin == house)
        self.assertEqual(shown(twin), shown(house))
        ahead = shown(house)
        twin.put("lib", LIB_TWO)
        twin.drop("main")
        twin.all_done([])
        self.assertEqual(shown(house), ahead)
        self.assertFalse(twin == house)
        # its history can be taken back there
        for _ in range(6):
            self.assertTrue(twin.undo())
        self.assertFalse(twin.undo())
        self.assertEqual((twin.names(), twin.standing(), len(twin.notes())), ([], {}, 4))
        self.assertEqual(shown(house), ahead)
        twin = house.twin()
        house.undo()
        house.undo()
        self.assertEqual(shown(twin), ahead)

    def test_equal(self):
        one, other = house_of(lib=LIB, box=LIB_CODE), house_of(box=LIB_CODE, lib=LIB)
        self.assertTrue(one == other)
        other.put("box", LIB)
        self.assertFalse(one == other)
        # history and notes aside
        other.put("box", LIB_CODE)
        other.all_done([])
        self.assertTrue(one == other)
        one.claim("lib", "box")
        self.assertFalse(one == other)
        other.claim("lib", "lib")
        self.assertFalse(one == other)
        other.undo()
        other.claim("lib", "box")
        self.assertTrue(one == other)
        # by numbers
        other.undo()
        other.claim("box", "lib")
        self.assertFalse(one == other)
        other.put("box", LIB_TWO)
        other.put("box", LIB_CODE)
        other.claim("lib", "box")
        self.assertEqual((list(one.standing()), list(other.standing())), ([1], [2]))
        self.assertFalse(one == other)
        for thing in [*THINGS, LIB, flow_of(LIB)]:
            self.assertFalse(one == thing)
            self.assertTrue(one != thing)
        # papers aside: of stays it may be another one
        self.assertTrue(House() == House())

    def test_told_anew(self):
        house = house_of(lib=LIB, box=LIB_CODE)
        house.claim("lib", "box")
        ahead = shown(house)
        house.names().clear()
        house.history().clear()
        house.notes().append(1)
        house.standing()[1][2].clear()
        house.standing().clear()
        told = house.put("lib", LIB)
        told[0][2].clear()
        told.clear()
        house.undo()
        self.assertEqual(shown(house), ahead)
        told = house.put("lib", LIB_TWICE)
        told[0][2].clear()
        self.assertEqual(house.standing()[1][2], found(flow_of(LIB_TWICE), flow_of(LIB_CODE))[1])
        deeds = [("put", "zoo", LIB)]
        house.all_done(deeds)
        deeds.clear()
        self.assertEqual(len(house.history()), 5)
        with self.assertRaises(Unlike) as caught:
            house.put("two", LIB_TWO)
            house.claim("lib", "two")
        caught.exception.letters.clear()
        self.assertEqual(answer(house.claim, "lib", "two"), ("refused", "Unlike", [("one", ())]))


class Chance(unittest.TestCase):
    def test_beside_a_plain_house(self):
        chance = some(141)
        seen = {}
        for _ in range(40):
            house, plain = House(), PlainHouse()
            if chance.random() < 0.9:
                for name, told in (("lib", LIB), ("box", LIB_CODE), ("main", chance.choice((MAIN, MAIN_MORE))), ("top", TOP)):
                    house.put(name, told)
                    plain.do("put", name, told)
            for _ in range(25):
                if chance.random() < 0.2:
                    self.assertIs(house.undo(), plain.undo())
                else:
                    deed = some_deed(chance)
                    right = plain.do(*deed)
                    told = answer(getattr(house, deed[0]), *deed[1:])
                    self.assertTrue(same(told, right), (deed[:2], told, right))
                    for word in [told[1]] if isinstance(told, tuple) else [fate[1] for fate in told] if isinstance(told, list) else []:
                        seen[word] = seen.get(word, 0) + 1
                self.assertTrue(same(house.standing(), dict(sorted(plain.standing.items()))))
                self.assertTrue(house.history() == plain.past)
                self.assertEqual(house.names(), sorted(plain.units))
                for one, other, paper in house.standing().values():
                    self.assertTrue(is_paper(house.whole(one), house.whole(other), paper))
            for name in house.names():
                self.assertTrue(house.whole(name) == whole_of(plain.units, name))
        for word in ("stays", "led", "renewed", "fell", "NoName", "NoPair", "Asked", "Claimed", "Unlike"):
            self.assertGreater(seen.get(word, 0), 3, seen)

    def test_all_done(self):
        chance = some(142)
        done = 0
        for _ in range(60):
            house, plain, notes = House(), PlainHouse(), []
            for _ in range(5):
                deeds = [some_deed(chance) for _ in range(chance.randint(0, 4))]
                past, right = list(plain.past), []
                for deed in deeds:
                    right.append(plain.do(*deed))
                    if isinstance(right[-1], tuple):
                        plain.past = past
                        plain.again()
                        right = right[-1]
                        break
                told = answer(house.all_done, deeds)
                self.assertTrue(same(told, right))
                notes += [("begin", len(deeds)), ("end", isinstance(right, list))]
                done += isinstance(right, list)
                self.assertEqual(house.notes(), notes)
                self.assertTrue(house.history() == plain.past)
                self.assertTrue(same(house.standing(), dict(sorted(plain.standing.items()))))
        self.assertGreater(done, 60)


if __name__ == "__main__":
    unittest.main()
