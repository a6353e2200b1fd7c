"""[16.2]: the desk, [0.2] (f) and (h)."""

import unittest

from houses import (
    LIB, LIB_CODE, LIB_LATE, LIB_LESS, LIB_PRIME, LIB_TWICE, LIB_TWO, LIB_WIDE, MAIN, MAIN_CODE, MAIN_SELF, POOL, TOP, some_deed, unit)
from onetrace.codetexts import coded_text
from onetrace.desk import Desk, answers
from onetrace.errors import TraceError, Unlike
from onetrace.flowruns import events_of
from onetrace.house import House
from onetrace.papertexts import letter_word
from onetrace.small import small_of
from onetrace.written import Written
from onetrace.writtentexts import written_text
from runs import next_letter
from things import kept, some


def told_rows(name, told):
    """The rows by which a unit is told."""
    kind, text = ("written", written_text(told)) if isinstance(told, Written) else ("coded", coded_text(told))
    return [f"{kind} {name}", *text.split("\n")[1:-1], "done"]


def tell(desk, name, told):
    """What is answered at last, where a unit is told."""
    *ahead, last = told_rows(name, told)
    assert [desk.say(row) for row in ahead] == [".."] * len(ahead)
    return desk.say(last)


def desk_of(**units):
    desk = Desk()
    for name, told in units.items():
        assert tell(desk, name, told).startswith("ok")
    return desk


class Says(unittest.TestCase):
    def says(self, desk, *pairs):
        for row, answer in pairs:
            self.assertEqual(desk.say(row), answer, row)

    def test_units(self):
        desk = Desk()
        self.says(desk, ("names", "none"), ("written lib", ".."), ("hidden sum", ".."), ("deed add a", ".."), ("  let sum a+sum", ".."),
                  ("  return sum", ".."), ("end", ".."), ("done", "ok"), ("names", "lib"))
        self.says(desk, ("coded box", ".."), ("cells 1", ".."), ("deed add 1", ".."), ("  plus x a", ".."), ("  copy a x", ".."), ("  ret", ".."),
                  ("end", ".."), ("done", "ok"), ("names", "box lib"), ("claim lib box", "1"), ("standing", "1 lib box"))
        self.assertEqual(desk.say(row="names"), "box lib")
        # put again
        self.says(desk, *zip(told_rows("box", LIB_CODE)[:-1], [".."] * 99), ("done", "refused nopair"))
        self.says(desk, ("drop box", "refused claimed"), ("undo", "ok"), ("drop box", "ok"), ("names", "lib"))

    def test_rows_of_units_alone(self):
        # whatever the rows are that are told, till done
        desk = Desk()
        self.says(desk, ("written lib", ".."))
        for row in ("written box", "hidden", "names", "", "undo", "  ", "what", "deed done", "done ", " done", "Done", "prime 97"):
            self.says(desk, (row, ".."))
        self.says(desk, ("done", "refused notext"), ("names", "none"), ("done", "what"))
        # a name done, a deed done, a word done
        self.says(desk, ("written done", ".."), ("hidden done", ".."), ("deed done", ".."), ("  fail done", ".."), ("end", ".."), ("done", "ok"),
                  ("names", "done"), ("run done done()", "call done, fail done; call"))

    def test_equalities(self):
        desk = desk_of(lib=LIB, box=LIB_CODE, main=MAIN)
        self.says(desk, ("claim lib box", "1"), ("claim main main", "2"), ("claim box box", "3"))
        for name, told, answer in (
            ("lib", LIB, "ok 1 stays; 2 stays; 3 stays"), ("lib", LIB_TWICE, "ok 1 led; 2 led; 3 stays"), ("main", MAIN_SELF, "ok 1 stays; 2 renewed; 3 stays"),
            ("zoo", LIB_TWO, "ok 1 stays; 2 stays; 3 stays"), ("lib", LIB_TWO, "ok 1 fell; 2 renewed; 3 stays"), ("box", LIB_LATE, "ok 2 stays; 3 renewed"),
        ):
            self.assertEqual(tell(desk, name, told), answer)
        self.says(desk, ("standing", "2 main main; 3 box box"), ("undo", "ok"), ("undo", "ok"), ("standing", "1 lib box; 2 main main; 3 box box"))
        self.says(desk, ("claim lib zoo", "unlike one()"), ("claim main lib", "refused nopair"), ("claim none lib", "refused noname"),
                  ("claim lib none", "refused noname"), ("claim lib box", "4"))

    def test_unlike(self):
        desk = desk_of(lib=LIB, box=LIB_LATE)
        self.says(desk, ("claim lib box", "unlike add(1) add(0)"))
        one = unit("hidden\ndeed go a b\ntake n\nask x lib get\npick\nway left\nout n\nway right\nend\nend")
        other = unit("hidden\ndeed go a b\ntake n\nask x lib get\npick\nway left\nout n\nway right\nout b\nend\nend")
        desk = desk_of(lib=unit("hidden\ndeed get\nend"), one=one, other=other)
        self.says(desk, ("claim one other", "unlike go(0,0) 0 right"))

    def test_prime(self):
        desk = Desk()
        self.says(desk, ("prime 89", "ok"))
        self.assertEqual(tell(desk, "lib", LIB_PRIME), "ok")
        self.says(desk, ("run lib add(88) add(2)", "call add 88, done 88, call add 2, done 1; call"), ("run lib add(89)", "refused noletter"),
                  ("prime 97", "ok"))
        self.assertEqual(tell(desk, "box", LIB), "ok")
        self.says(desk, ("run lib add(89)", "refused noletter"), ("run box add(89) add(10)", "call add 89, done 89, call add 10, done 2; call"),
                  ("claim lib box", "refused nopair"), ("prime 2", "ok"), ("prime 1", "what"), ("prime 4", "what"))
        self.assertEqual(tell(desk, "main", LIB_TWICE), "refused notext")
        self.says(desk, ("prime 997", "ok"), ("prime 0997", "what"), ("prime 1009", "what"), ("prime x", "what"), ("prime", "what"), ("prime 3 5", "what"),
                  ("prime  3", "what"), ("prime -3", "what"), ("prime 3\n", "what"))
        self.assertEqual(tell(desk, "main", MAIN), "refused nopair")
        self.assertEqual(tell(desk, "main", unit("hidden\ndeed go\nout 996\nend", 997)), "ok")
        self.assertEqual(tell(desk, "top", unit("hidden\ndeed go\nask n lib get\nend", 997)), "refused nopair")

    def test_refused_units(self):
        desk = desk_of(lib=LIB, main=MAIN)
        for rows, answer in (
            (["written lib", "hidden", "done"], "refused nounit"), (["coded lib", "cells 0", "done"], "refused nounit"), (["written lib", "done"], "refused notext"),
            (["written lib", "hidden", "deed add a", "done"], "refused notext"), (["coded lib", "hidden", "done"], "refused notext"),
            (["written lib", "cells 0", "deed go 0", "end", "done"], "refused notext"), (["coded lib", "cells 4", "done"], "refused nounit"),
            (["written lib", "prime 97", "hidden", "deed go", "end", "done"], "refused notext"), (["written lib", "hidden x x", "deed go", "end", "done"], "refused nounit"),
            (["written lib", "hidden", "deed go", "  out 97", "end", "done"], "refused notext"), (["written lib", "hidden", "deed go", "  out x", "end", "done"], "refused nounit"),
            # of the unit's own text ahead of all else, what is asked too
            (["written lib", "hidden", "deed go", "  ask n none go", "end", "  ", "done"], "refused notext"),
            (["written lib", "hidden", "deed go", "  ask n none go", "  out x", "end", "done"], "refused nounit"),
            (["written lib", "hidden", "deed go", "  ask n none go", "end", "done"], "refused noname"),
            (["written lib", "hidden", "deed go", "  ask n lib go", "end", "done"], "refused round"),
            (["written lib", "hidden", "deed go", "  ask n main go", "end", "done"], "refused round"),
            (["written lib", "hidden", "deed go", "end", "done"], "refused nopair"),
            (["written lib", "hidden\ndeed go", "end", "done"], "refused notext"), (["written lib", "hidden", "deed go", "end\n", "done"], "refused notext"),
            (["written lib", "hidden", "", "deed go", "end", "done"], "refused notext"), (["written lib", "hidden", "deed go", "end", "", "done"], "refused notext"),
        ):
            self.says(desk, *[(row, "..") for row in rows[:-1]], (rows[-1], answer), ("names", "lib main"), ("done", "what"))
            # what was told ahead isn't there any more
            self.assertEqual(tell(desk, "lib", LIB), "ok")

    def test_other_refusals(self):
        desk = desk_of(lib=LIB, box=LIB, main=MAIN)
        self.says(desk, ("claim lib box", "1"), ("drop none", "refused noname"), ("drop lib", "refused asked"), ("drop box", "refused claimed"),
                  ("run none", "refused noname"), ("small none", "refused noname"), ("run none add()", "refused noname"), ("claim lib none", "refused noname"),
                  ("run lib add()", "refused noletter"), ("run lib add(1,2)", "refused noletter"), ("run lib left", "refused noletter"),
                  ("run lib 3", "refused noletter"), ("run lib !", "refused noletter"), ("run lib add(99999)", "refused noletter"),
                  ("run lib " + " ".join(["get()"] * 200), ", ".join(["call get, done 0"] * 200) + "; call"),
                  ("run lib " + " ".join(["get()"] * 201), "refused toolong"))
        deep = [("d" * 8, unit("hidden xxxxx\ndeed go\nend"))]
        for name in "cba":
            deep.append((name * 8, unit(f"hidden\ndeed go\nask n {deep[-1][0]} go\nend")))
        for name, told in deep:
            self.assertEqual(tell(desk, name, told), "ok 1 stays")
        self.assertEqual(tell(desk, "top", unit(f"hidden\ndeed go\nask n {'a' * 8} go\nend")), "refused toomany")

    def test_run(self):
        told = unit("hidden x\ndeed go a b\nout a\npick\nway left\ntake x\nway right\nfail lost\nend\nask n lib add b\nfault\nreturn 5\nend\nreturn n+x\nend\ndeed on\nend")
        desk = desk_of(lib=unit("hidden\ndeed add a\npick\nway no\nfail no\nway yes\nreturn a\nend\nend"), main=told)
        self.says(desk, ("run main", "call"), ("run main go(3,4)", "call go 3 4, out 3; pick left right"), ("run main on()", "call on, done 0; call"),
                  ("run main go(3,4) left", "call go 3 4, out 3, pick left; take"),
                  ("run main go(3,4) left 7", "call go 3 4, out 3, pick left, take 7; pick no yes"),
                  ("run main go(3,4) left 7 yes", "call go 3 4, out 3, pick left, take 7, pick yes, done 11; call"),
                  ("run main go(3,4) left 7 no on()", "call go 3 4, out 3, pick left, take 7, pick no, done 5, call on, done 0; call"),
                  ("run main go(3,4) right", "call go 3 4, out 3, pick right, fail lost; call"), ("run lib add(1)", "call add 1; pick no yes"))

    def test_small(self):
        desk = desk_of(lib=LIB, box=LIB_CODE, main=MAIN, top=TOP)
        for name in ("lib", "box", "main"):
            house = House()
            for other, told in (("lib", LIB), ("box", LIB_CODE), ("main", MAIN)):
                house.put(other, told)
            steps = [step for step in small_of(house.whole(name)).steps() if step[0] != "move"]
            self.says(desk, (f"small {name}", str(len(steps))))
        self.assertEqual(desk.say("small lib"), desk.say("small box"))
        self.says(desk, ("small lib", "2"), ("small main", "3"))

    def test_undo(self):
        desk = Desk()
        self.says(desk, ("undo", "nothing"))
        desk = desk_of(lib=LIB, box=LIB_CODE)
        self.says(desk, ("claim lib box", "1"), ("undo", "ok"), ("standing", "none"), ("claim box lib", "1"), ("standing", "1 box lib"), ("undo", "ok"),
                  ("drop box", "ok"), ("undo", "ok"), ("names", "box lib"), ("undo", "ok"), ("undo", "ok"), ("names", "none"), ("undo", "nothing"))

    def test_what(self):
        desk = desk_of(lib=LIB, box=LIB_CODE)
        desk.say("claim lib box")
        right = ["written zoo", "coded zoo", "prime 89", "drop lib", "claim lib box", "undo", "run lib", "run lib get()", "small lib", "standing", "names"]
        rows = ["", " ", "  ", "what", "ok", "done", "..", "end", "put lib", "unit lib", "whole lib", "history", "notes", "twin", "hidden x", "deed go", "\n"]
        for row in right:
            rows += [" " + row, row + " ", row.upper(), row.capitalize(), row + "  x", row + "\n", "\n" + row, row + "\t", row.split(" ")[0] + "s lib", "x" + row]
            if " " in row:
                rows += [row.replace(" ", "  ", 1), row.replace(" ", "\t", 1), row.replace(" ", "\n", 1), row.replace(" ", "", 1)]
            if not row.startswith("run"):
                rows += [row + " lib", row + " x y", row + " 1"]
        for word in ("written", "coded", "drop", "small", "run", "claim lib", "claim"):
            rows += [word + name for name in (" ", " Lib", " lib1", " l.b", " abcdefghi", " 1", " -", " lib!", " lib()", " (", " !")]
        rows += ["written", "coded", "drop", "claim", "claim lib", "claim lib ", "run", "run ", "small", "claim lib box lib", "claim  box", "claim lib Box",
                 "claim Lib box", "drop lib box", "small lib box", "written zoo box", "coded zoo 1", "undo 1", "standing 1", "names lib"]
        rows += ["run lib " + word for word in ("add(", "add(3", "add 3)", "Add()", "add(03)", "add(100000)", "add(3, 4)", "add(3,)", "007", "-1", "100000", "?",
                                                 "abcdefghi", "get() ", " get()", "get()  get()", "get() x1", "x1 get()", "()", "1x")]
        # names that aren't here, and letters that aren't due, are none of these
        for row in rows:
            self.assertEqual(desk.say(row), "what", row)
        self.says(desk, ("standing", "1 lib box"), ("names", "box lib"))


class Answers(unittest.TestCase):
    def test_texts(self):
        self.assertEqual(answers(""), ["what"])
        self.assertEqual(answers("\n"), ["what", "what"])
        self.assertEqual(answers("names"), ["none"])
        self.assertEqual(answers("names\n"), ["none", "what"])
        self.assertEqual(answers("names\n\nundo"), ["none", "what", "nothing"])
        self.assertEqual(answers(text="standing"), ["none"])
        # a new desk each time
        rows = told_rows("lib", LIB)
        for _ in range(2):
            self.assertEqual(answers("\n".join([*rows, "names"])), [*[".."] * (len(rows) - 1), "ok", "lib"])
        self.assertEqual(answers("\n".join(rows[:-1]) + "\n"), [".."] * len(rows))
        self.assertEqual(kept(answers, "prime 3\nclaim a b\nundo\n"), ["ok", "refused noname", "nothing", "what"])

    def test_a_whole_text(self):
        rows = [*told_rows("lib", LIB), *told_rows("box", LIB_TWICE), "claim lib box", *told_rows("box", LIB_LATE), "standing", "run lib one()"]
        told = answers("\n".join(rows))
        self.assertEqual(len(told), len(rows))
        self.assertEqual([answer for answer in told if answer != ".."], ["ok", "ok", "1", "ok 1 fell", "none", "call one, done 1; call"])


class Beside(unittest.TestCase):
    def test_a_house(self):
        chance = some(170)
        for _ in range(25):
            desk, house = Desk(), House()
            for name, told in (("lib", LIB), ("box", LIB_CODE), ("main", MAIN), ("top", TOP)):
                tell(desk, name, told)
                house.put(name, told)
            for _ in range(20):
                if chance.random() < 0.2:
                    self.assertEqual(desk.say("undo"), "ok" if house.undo() else "nothing")
                    continue
                deed = some_deed(chance)
                try:
                    told = getattr(house, deed[0])(*deed[1:])
                    if deed[0] == "put":
                        told = "ok" + " " * bool(told) + "; ".join(f"{number} {word}" for number, word, _ in told)
                    told = "ok" if told is None else str(told)
                except Unlike as caught:
                    told = "unlike " + " ".join(map(letter_word, caught.letters))
                except TraceError as caught:
                    told = "refused " + type(caught).__name__.lower()
                if deed[0] == "put":
                    desk.say(f"prime {deed[2].prime()}")
                    self.assertEqual(tell(desk, *deed[1:]), told)
                else:
                    self.assertEqual(desk.say(" ".join(deed)), told)
                self.assertEqual(desk.say("names"), " ".join(house.names()) or "none")
                standing = [f"{number} {one} {other}" for number, (one, other, _) in house.standing().items()]
                self.assertEqual(desk.say("standing"), "; ".join(standing) or "none")
                if house.names():
                    name = chance.choice(house.names())
                    letters = []
                    for _ in range(chance.randint(0, 4)):
                        letters.append(next_letter(chance, house.whole(name), events_of(house.whole(name), letters)[1]))
                    events, due = events_of(house.whole(name), letters)
                    right = "; ".join([", ".join(map(worded, events)), worded(due)] if events else [worded(due)])
                    self.assertEqual(desk.say(" ".join(["run", name, *map(letter_word, letters)])), right)


def worded(told):
    return " ".join(" ".join(map(str, thing)) if isinstance(thing, tuple) else str(thing) for thing in told if thing != ())


if __name__ == "__main__":
    unittest.main()
