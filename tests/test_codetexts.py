"""[5.2]: texts of coded units."""

import unittest

from codes import coded_with, some_coded, whole_code
from onetrace.coded import Coded
from onetrace.codetexts import coded_text, read_coded
from onetrace.errors import NoText, NoUnit
from things import THINGS, kept, some

WHOLE = """prime 97
cells 2
deed main 2
  set c 3
  copy x a
  plus y b
  times c 96
  push c
  pop h
  go 7
  pick left 8 right 13 up 0
  take d
  out d
  ask lib get 2 12
  ret
  fail lost
  ask lib put 0 11
end
deed add 1
  plus x a
  copy a x
  ret
end
"""
HEAD = ["prime 97", "cells 2", "deed main 1"]
BIG = "9" * 5000


class Reading(unittest.TestCase):
    def no_text(self, row, text):
        with self.assertRaises(NoText, msg=text) as caught:
            read_coded(text)
        self.assertIs(type(caught.exception), NoText)
        self.assertEqual(caught.exception.row, row, text)

    def no_text_of(self, row, rows):
        self.no_text(row, "".join(line + "\n" for line in rows))

    def no_unit_of(self, rows):
        with self.assertRaises(NoUnit, msg=rows) as caught:
            read_coded("".join(line + "\n" for line in rows))
        self.assertIs(type(caught.exception), NoUnit)

    def read(self, rows):
        return read_coded("".join(line + "\n" for line in rows))

    def cant_stand(self, line, behind):
        """A row that can't stand here is told, whatever is behind it."""
        self.no_text_of(len(behind), [*behind, line])
        self.no_text_of(len(behind), [*behind, line, "end", "deed", ""])

    def can_stand(self, line, behind):
        """A row that can stand here: the one behind it is told, or there is none."""
        with self.assertRaises((NoText, NoUnit), msg=line) as caught:
            self.read([*behind, line, "what"])
        self.assertEqual(caught.exception.row, len(behind) + 1, line)


class Right(Reading):
    def test_whole(self):
        unit = whole_code()
        self.assertEqual(kept(coded_text, unit), WHOLE)
        self.assertEqual(coded_text(unit=unit), WHOLE)
        self.assertEqual(kept(read_coded, WHOLE), unit)
        self.assertEqual(read_coded(text=WHOLE), unit)
        self.assertIs(type(read_coded(WHOLE)), Coded)

    def test_small_ones(self):
        self.assertEqual(coded_text(Coded(0, (("go", 0, ()),), prime=2)), "prime 2\ncells 0\ndeed go 0\nend\n")
        self.assertEqual(read_coded("prime 2\ncells 0\ndeed go 0\nend\n"), Coded(0, (("go", 0, ()),), prime=2))

    def test_large_ones(self):
        code = tuple(("go", at + 1) for at in range(398)) + (("pick", (("a", 0), ("b", 99), ("c", 399))), ("ret",))
        unit = Coded(3, tuple((name, 3, code) for name in "dbca"), prime=997)
        self.assertEqual(read_coded(coded_text(unit)), unit)
        self.assertIn("  pick a 0 b 99 c 399\n", coded_text(unit))

    def test_known_words_as_names(self):
        unit = Coded(0, (("end", 0, (("pick", (("a", 0), ("end", 1), ("pick", 2))), ("fail", "end"), ("ask", "ask", "deed", 0, 1))),
                         ("deed", 1, ())))
        self.assertEqual(read_coded(coded_text(unit)), unit)

    def test_chance(self):
        chance = some(42)
        for _ in range(300):
            unit = some_coded(chance)
            text = kept(coded_text, unit)
            self.assertEqual(read_coded(text), unit)
            self.assertTrue(text.endswith("end\n"))


class Spoiled(Reading):
    def texts(self):
        chance = some(43)
        yield WHOLE
        for _ in range(15):
            yield coded_text(some_coded(chance))

    def test_each_row_spoiled(self):
        for text in self.texts():
            rows = text.split("\n")[:-1]
            for at, row in enumerate(rows):
                bare = row.lstrip()
                ahead = row[:len(row) - len(bare)]
                bad = [" " + row, "  " + row, row + " ", row + "  ", row.upper(), "#" + row, ahead + "X" + bare, "", ahead,
                       ahead + "foo", "prime 97" if at else "cells 1", row + " 1", row + " a", row + "\t", ahead + "\t" + bare,
                       row.replace(bare, bare.replace(" ", "  ")) if " " in bare else ahead + " ", ahead + "end 1",
                       row + " X", row.replace(" ", " 0") if any(c.isdigit() for c in bare) else ahead + "go 01"]
                if ahead:
                    bad += [row[1:], row[2:], "\t" + row[2:], bare + " "]
                for other in bad:
                    self.no_text_of(at, rows[:at] + [other] + rows[at + 1:])
                    self.cant_stand(other, rows[:at])

    def test_each_row_behind(self):
        for text in self.texts():
            many = text.count("\n")
            for line in ("", " ", "end", "  end", "a", "prime 97", "cells 0", "ret", "  ret", "deed", "deed x", "deed 1 1"):
                self.no_text(many, text + line + "\n")

    def test_ends_too_soon(self):
        for text in self.texts():
            rows = text.split("\n")[:-1]
            for at in range(len(rows)):
                part = "".join(line + "\n" for line in rows[:at])
                if at == 2:
                    self.no_unit_of(rows[:at])
                elif at > 2 and rows[at - 1] == "end":
                    read_coded(part)
                else:
                    self.no_text(at, part)
                if at > 0:
                    self.no_text(at, part[:-1])

    def test_last_line_feed_lacks(self):
        self.no_text(WHOLE.count("\n"), WHOLE[:-1])
        self.no_text(1, "prime 97")
        self.no_text(2, "prime 97\ncells 0")
        self.no_text(4, "prime 97\ncells 0\ndeed go 0\nend")
        # a row that can't stand comes ahead of that
        self.no_text(0, "prime 9")
        self.no_text(3, "prime 97\ncells 0\ndeed go 0\nen")
        # and that comes ahead of what is no unit's
        self.no_text(2, "prime 97\ncells 9")
        self.no_text(4, "prime 97\ncells 9\ndeed go 0\nend")

    def test_no_text(self):
        for thing in THINGS:
            if not isinstance(thing, str):
                self.no_text(0, thing)
        for thing in ([WHOLE], (WHOLE,), {"text": WHOLE}, 97):
            self.no_text(0, thing)
        for text in ("", "\n", " ", "\n" + WHOLE, "x", "cells 0\n"):
            self.no_text(0, text)


class Places(Reading):
    def test_prime(self):
        for line in ("prime 097", "prime 4", "prime 1", "prime 0", "prime 998", "prime 1009", "prime", "prime 97 ",
                     "prime  97", " prime 97", "Prime 97", "prime +97", "prime -97", "prime 9 7", "prime 97 97", "prime x",
                     "97", "cells 0", "deed go 0", "end", "prime " + BIG, "prime " + "0" * 5000, "prime 1_3"):
            self.cant_stand(line, [])
        for p in (2, 3, 7, 97, 997):
            self.can_stand(f"prime {p}", [])

    def test_cells(self):
        for line in ("", "cells", "cells ", "cells 01", "cells 00", "cells 1000", "cells x", "cells -1", "cells +1", "cells 1 1",
                     " cells 1", "cells  1", "cells 1 ", "Cells 1", "hidden", "hidden x", "prime 97", "deed go 0", "end",
                     "cells " + BIG, "cells 1_0", "cells x y"):
            self.cant_stand(line, ["prime 97"])
        for n in (0, 1, 3, 4, 10, 99, 100, 999):
            self.can_stand(f"cells {n}", ["prime 97"])
        self.can_stand("cells 999", ["prime 2"])

    def test_deed(self):
        wrong = ["", "deed", "deed ", "deed go", "deed go ", "deed go x", "deed go 01", "deed go 1000", "deed go 1 1", " deed go 1",
                 "  deed go 1", "deed  go 1", "deed go  1", "deed go 1 ", "deed 1 1", "deed Go 1", "deed abcdefghi 1", "deed x.y 1",
                 "cells 0", "prime 97", "end", "ret", "  ret", "set a 1", "deed go -1", "deed go " + BIG]
        for behind in (HEAD[:2], HEAD + ["end"]):
            for line in wrong:
                self.cant_stand(line, behind)
            for line in ("deed go 0", "deed go 3", "deed go 4", "deed deed 999", "deed abcdefgh 10"):
                self.can_stand(line, behind)

    def test_instructions(self):
        wrong = ["set a", "set a 97", "set a 03", "set a a", "set i 1", "set 1 1", "set aa 1", "set a 1 1", "set", "set ", "set w 1",
                 "set a -1", "set a 1000", "set a " + BIG, "copy a", "copy a 1", "copy a i", "copy i a", "copy a b c", "plus a",
                 "plus a 1", "plus a w", "plus a b c", "times a", "times a 97", "times a b", "times a 01", "times a 1 1",
                 "push", "push 1", "push i", "push a b", "pop", "pop 1", "pop w", "pop a b", "go", "go a", "go 01", "go 1000",
                 "go 1 1", "go -1", "go " + BIG, "pick", "pick ", "pick left", "pick left right", "pick left 1 right",
                 "pick 1 left", "pick Left 1", "pick left 01", "pick left 1000", "pick left 1  right 2", "pick left 1 right 2 3",
                 "pick abcdefghi 1", "pick left 1 2 right", "take", "take 1", "take w", "take a b", "out", "out 1", "out i",
                 "out a b", "out a+b", "ask", "ask lib", "ask lib get", "ask lib get 1", "ask lib get 1 1 1", "ask lib get a 1",
                 "ask lib get 1 a", "ask lib get 01 1", "ask lib get 1 01", "ask 1 get 1 1", "ask lib Get 1 1", "ask lib get 1000 1",
                 "ask lib get 1 " + BIG, "ask lib.x get 1 1", "ret a", "ret ", "ret 1", "fail", "fail 1", "fail a b", "fail x.y",
                 "end", "deed go 1", "cells 0", "prime 97", "foo", "", "let a 1", "return a", "done a", "seta 1", "set  a 1",
                 "way left", "fault", "loop", "RET", "Ret"]
        right = ["set a 0", "set h 96", "set z 1", "copy a x", "copy z a", "plus y y", "times b 96", "push z", "pop y", "go 0",
                 "go 999", "pick left 0", "pick right 1 left 999", "pick a 1 a 1", "pick a 0 b 1 c 2 d 3 e 4 f 5 g 6 h 7",
                 "take z", "out h", "ask lib get 0 0", "ask lib get 999 999", "ask a b 4 0", "ret", "fail lost", "fail ret"]
        for behind in (HEAD, HEAD + ["  ret"], HEAD + ["  pick a 0"], ["prime 97", "cells 0", "deed main 0"]):
            for line in wrong:
                self.cant_stand("  " + line, behind)
            for line in right:
                self.can_stand("  " + line, behind)
                for ahead in ("", " ", "   ", "    "):
                    self.cant_stand(ahead + line, behind)
            for line in ("end x", " end", "end ", "END", "", "deed go 1", "ends"):
                self.cant_stand(line, behind)
            self.can_stand("end", behind)

    def test_by_the_prime(self):
        self.cant_stand("  set a 2", ["prime 2", "cells 0", "deed go 0"])
        self.cant_stand("  times a 2", ["prime 2", "cells 0", "deed go 0"])
        for line in ("  set a 1", "  go 2", "  ask u d 3 9", "  pick a 500"):
            self.can_stand(line, ["prime 2", "cells 0", "deed go 0"])
        self.can_stand("  set a 996", ["prime 997", "cells 0", "deed go 0"])
        self.cant_stand("  set a 997", ["prime 997", "cells 0", "deed go 0"])

    def test_however_many_cells(self):
        self.no_unit_of(["prime 97", "cells 0", "deed go 0", "  out x", "end"])
        self.no_unit_of(["prime 97", "cells 2", "deed go 0", "  set z 1", "end"])
        self.assertEqual(self.read(["prime 97", "cells 3", "deed go 0", "  set z 1", "end"]).hidden(), 3)


class NoUnits(Reading):
    def deed(self, *rows):
        return [*HEAD, *rows, "end"]

    def test_rows_that_can_stand(self):
        self.no_unit_of(HEAD[:2])
        self.no_unit_of(["prime 97", "cells 4", "deed go 0", "end"])
        self.no_unit_of(["prime 97", "cells 999", "deed go 0", "end"])
        self.no_unit_of(["prime 97", "cells 0", "deed go 4", "end"])
        self.no_unit_of(["prime 97", "cells 0", *["deed go 0", "end"] * 2])
        self.no_unit_of(["prime 97", "cells 0", *[row for name in "abcde" for row in (f"deed {name} 0", "end")]])

    def test_within_a_deed(self):
        self.no_unit_of(self.deed("  go 1"))
        self.no_unit_of(self.deed("  go 0"))
        self.no_unit_of(self.deed("  ret", "  go 2"))
        self.no_unit_of(self.deed("  go 999"))
        self.no_unit_of(self.deed("  pick b 0 a 0"))
        self.no_unit_of(self.deed("  pick a 0 a 0"))
        self.no_unit_of(self.deed("  pick a 0 b 0 c 0 d 0 e 0 f 0 g 0"))
        self.no_unit_of(self.deed("  pick a 1"))
        self.no_unit_of(self.deed("  ret", "  ask u d 4 0"))
        self.no_unit_of(self.deed("  ret", "  ask u d 1 0", "  ask u d 2 0"))
        self.no_unit_of(self.deed("  ask u d 1 0"))
        self.no_unit_of(self.deed("  out z"))
        self.read(self.deed("  pick a 0 b 0 c 0 d 0 e 0 f 0"))

    def test_many_rows(self):
        self.assertEqual(len(self.read(self.deed(*["  ret"] * 400)).deeds()[0][2]), 400)
        self.no_unit_of(self.deed(*["  ret"] * 401))
        self.no_unit_of(self.deed(*["  ret"] * 20000))
        self.no_text_of(20003, [*self.deed(*["  ret"] * 20000)[:-1], "ende"])
        self.no_unit_of(self.deed("  pick " + " ".join(["a 0"] * 5000)))

    def test_coded_alone(self):
        self.assertEqual(self.read(self.deed("  ret")), coded_with(("ret",), many=1))
