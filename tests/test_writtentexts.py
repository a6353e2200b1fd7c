"""[4.2]: texts of written units."""

import unittest

from onetrace.errors import NoText, NoUnit
from onetrace.written import Written
from onetrace.writtentexts import read_written, written_text
from things import THINGS, kept, some
from units import ONE, some_unit, unit_with, whole_unit

WHOLE = """prime 97
hidden x y
deed main a b
  let x 3+2a+96y
  take c
  out b+5y
  pick
  way left
    out x
    take x
  way right
  way up
    return 1
  end
end
deed rest b
  loop
  way add
    let c x
  way rest
  end stop
  ask x lib get x b
  fault
    out 1
    fail lost
  end
  ask c lib put
  return x+y
  fail empty
end
"""
HEAD = ["prime 97", "hidden x", "deed main a"]


class Reading(unittest.TestCase):
    def no_text(self, row, text):
        with self.assertRaises(NoText, msg=text) as caught:
            read_written(text)
        self.assertIs(type(caught.exception), NoText)
        self.assertEqual(caught.exception.row, row, text)

    def no_text_of(self, row, rows):
        self.no_text(row, "".join(line + "\n" for line in rows))

    def no_unit_of(self, rows):
        with self.assertRaises(NoUnit, msg=rows) as caught:
            read_written("".join(line + "\n" for line in rows))
        self.assertIs(type(caught.exception), NoUnit)

    def read(self, rows):
        return read_written("".join(line + "\n" for line in rows))

    def cant_stand(self, line, behind):
        """A row that can't stand behind these."""
        self.no_text_of(len(behind), [*behind, line])
        self.no_text_of(len(behind), [*behind, line, "end", ""])
        if line:
            self.no_text(len(behind), "".join(row + "\n" for row in behind) + line)

    def can_stand(self, line, behind):
        """A row that can stand behind these: it is the one behind it that can't."""
        self.no_text_of(len(behind) + 1, [*behind, line, "#"])


class Round(Reading):
    def test_told(self):
        unit = whole_unit()
        self.assertEqual(kept(written_text, unit), WHOLE)
        self.assertEqual(written_text(unit=unit), WHOLE)
        self.assertEqual(kept(read_written, WHOLE), unit)
        self.assertEqual(read_written(text=WHOLE), unit)
        self.assertIs(type(read_written(WHOLE)), Written)

    def test_small_ones(self):
        self.assertEqual(written_text(Written((), (("go", (), ()),), prime=2)), "prime 2\nhidden\ndeed go\nend\n")
        self.assertEqual(read_written("prime 2\nhidden\ndeed go\nend\n"), Written((), (("go", (), ()),), prime=2))

    def test_deep_ones(self):
        ask = ("ask", "x", "u", "d", (), (("out", ONE),))
        unit = unit_with(("loop", (("go", (("pick", (("go", (ask, ask)), ("on", ()))), ("take", "x"))),), "end"))
        text = written_text(unit)
        self.assertIn("      fault\n        out 1\n      end\n      ask x u d\n      fault\n", text)
        self.assertIn("      end\n    way on\n    end\n    take x\n  end end\nend\n", text)
        self.assertEqual(read_written(text), unit)

    def test_known_words_as_names(self):
        unit = Written(("let", "end"), (("end", ("way", "fault"), (
            ("let", "let", (0, (("end", 1),))), ("take", "fault"), ("fail", "end"),
            ("ask", "way", "ask", "ask", ((0, (("let", 1),)),), (("pick", (("end", ()), ("way", ()))),)),
            ("loop", (("way", ()),), "end"))), ("deed", (), ())))
        self.assertEqual(read_written(written_text(unit)), unit)

    def test_chance(self):
        chance = some(31)
        for _ in range(300):
            unit = some_unit(chance)
            text = kept(written_text, unit)
            self.assertEqual(read_written(text), unit)
            self.assertTrue(text.endswith("end\n"))


class Spoiled(Reading):
    def texts(self):
        chance = some(32)
        yield WHOLE
        for _ in range(15):
            yield written_text(some_unit(chance))

    def test_each_row_spoiled(self):
        for text in self.texts():
            rows = text.split("\n")[:-1]
            for at, row in enumerate(rows):
                bare = row.lstrip()
                ahead = row[:len(row) - len(bare)]
                bad = [" " + row, "  " + row, row + " ", row + "  ", row.upper(), "#" + row, ahead + "X" + bare, "",
                       ahead, ahead + "foo", "prime 97" if at else "hidden", row + " 1+1", row + "\t", ahead + "\t" + bare,
                       row.replace(bare, bare.replace(" ", "  ")) if " " in bare else ahead + " ", ahead + "way Left",
                       ahead + "end 1", row + " X", row + " 0+x"]
                if ahead:
                    bad += [row[1:], row[2:], "\t" + row[2:], bare + " "]
                for other in bad:
                    self.no_text_of(at, rows[:at] + [other] + rows[at + 1:])
                    self.cant_stand(other, rows[:at])

    def test_each_row_behind(self):
        for text in self.texts():
            many = text.count("\n")
            for line in ("", " ", "end", "  end", "x", "prime 97", "hidden", "let x 1", "  let x 1", "deed", "deed 1"):
                self.no_text(many, text + line + "\n")

    def test_ends_too_soon(self):
        for text in self.texts():
            rows = text.split("\n")[:-1]
            for at in range(len(rows)):
                part = "".join(line + "\n" for line in rows[:at])
                if at == 2:
                    self.no_unit_of(rows[:at])
                elif at > 2 and rows[at - 1] == "end":
                    read_written(part)
                else:
                    self.no_text(at, part)
                if at > 0:
                    self.no_text(at, part[:-1])

    def test_last_line_feed_lacks(self):
        self.no_text(WHOLE.count("\n"), WHOLE[:-1])
        self.no_text(1, "prime 97")
        self.no_text(2, "prime 97\nhidden")
        self.no_text(4, "prime 97\nhidden\ndeed go\nend")
        # a row that can't stand comes ahead of that
        self.no_text(0, "prime 9")
        self.no_text(3, "prime 97\nhidden\ndeed go\nen")
        # and that comes ahead of what is no unit's
        self.no_text(2, "prime 97\nhidden x x")
        self.no_text(4, "prime 97\nhidden x x\ndeed go\nend")

    def test_no_text(self):
        for thing in THINGS:
            if not isinstance(thing, str):
                self.no_text(0, thing)
        for thing in ([WHOLE], (WHOLE,), {"text": WHOLE}, 97):
            self.no_text(0, thing)
        self.no_text(0, "")
        self.no_text(0, "\n")
        self.no_text(0, " ")
        self.no_text(0, "\n" + WHOLE)


class Places(Reading):
    def test_prime(self):
        for line in ("prime 097", "prime 4", "prime 1", "prime 0", "prime 998", "prime 1009", "prime", "prime 97 ",
                     "prime  97", " prime 97", "Prime 97", "prime +97", "prime -97", "prime 9 7", "prime 97 97",
                     "prime x", "prime 97x", "97", "hidden", "deed go", "end", "prime " + "9" * 5000, "prime " + "0" * 5000,
                     "prime 1_3"):
            self.cant_stand(line, [])
        for p in (2, 3, 7, 97, 997):
            self.can_stand(f"prime {p}", [])

    def test_hidden(self):
        for line in ("", "hidden ", "hidden  x", " hidden", "hidden x1", "hidden x.y", "hidden X", "hidden abcdefghi",
                     "hidden 1", "hidden x ", "prime 97", "deed go", "end", "Hidden", "hiddenx", "hidden x, y"):
            self.cant_stand(line, ["prime 97"])
        for line in ("hidden", "hidden x", "hidden x y z", "hidden x x", "hidden a b c d e", "hidden hidden end"):
            self.can_stand(line, ["prime 97"])

    def test_deed(self):
        for line in ("", "deed", "deed ", "deed go ", " deed go", "  deed go", "deed  go", "deed go 1", "deed x.y", "end",
                     "hidden", "let x 1", "  let x 1", "deed Go", "deed abcdefghi", "deed go a,b", "prime 97", "deed go a  b"):
            self.cant_stand(line, HEAD[:2])
            self.cant_stand(line, HEAD + ["end"])
        for line in ("deed go", "deed go a b c", "deed go a a a a a", "deed deed"):
            self.can_stand(line, HEAD[:2])
            self.can_stand(line, HEAD + ["end"])

    def test_rows_of_a_deed(self):
        wrong = ["let x", "let x 97", "let x 03", "let x y+x", "let 1 x", "let x 1 2", "let x 1 + x", "let", "let x ",
                 "take", "take x y", "take 1", "take x.y", "out", "out x x", "out 97", "out 0x", "out 1x", "out x+",
                 "return", "return x x", "return 100", "fail", "fail 1", "fail a b", "fail x.y", "pick x", "pick ", "loop x",
                 "loop ", "ask", "ask x", "ask x lib", "ask x lib get 97", "ask x lib get x ", "ask x lib get  x",
                 "ask 1 lib get", "ask x 1 get", "ask x lib 1", "ask x.y lib get", "ask x lib get x+x", "fault", "way a",
                 "end", "end x", "deed go", "hidden", "prime 97", "foo", "", "let x " + "9" * 5000, "out " + "0" * 5000,
                 "out " + "1" * 5000 + "x", "ask x lib get " + "7" * 9000, "done x", "move", "letx 1", "let  x 1"]
        right = ["let x 1", "let zz 96+96lib.y", "take x", "out 0", "out no.such", "return x", "fail x", "pick", "loop",
                 "ask x lib get", "ask x lib get 0 1 x 3+x x", "take end", "fail let"]
        for behind in (HEAD, HEAD + ["  let x 1"], HEAD + ["  return x"], HEAD + ["  pick", "  end"]):
            for line in wrong:
                self.cant_stand("  " + line, behind)
            for line in right:
                self.can_stand("  " + line, behind)
                for ahead in ("", " ", "   ", "    ", "      "):
                    self.cant_stand(ahead + line, behind)
            for line in ("end x", "way a", "fault", "deed go", " end", "end ", "END", ""):
                self.cant_stand(line, behind)
            self.can_stand("end", behind)

    def test_ways(self):
        for word, end, other in (("pick", "end", "end stop"), ("loop", "end stop", "end")):
            begun = HEAD + [f"  {word}"]
            for behind in (begun, begun + ["  way b"], begun + ["  way b", "    take x"]):
                self.can_stand("  way a", behind)
                self.can_stand("  " + end, behind)
                for line in (other, "way", "way a b", "way 1", "way ", "way abcdefghi", "way a.b", "take x", "fault",
                             "end stop stop", "end 1", "end ", word, "ways a", ""):
                    self.cant_stand("  " + line, behind)
                for line in ("    way a", "way a", "    end", "end", "    " + end, end, "    fault"):
                    self.cant_stand(line, behind)
            self.cant_stand("    take x", begun)
            for line in ("take x", "pick", "loop", "ask x lib get"):
                self.can_stand("    " + line, begun + ["  way b"])
                self.cant_stand("      " + line, begun + ["  way b"])
                self.cant_stand("    " + line, begun + ["  way b", "  " + end])
                self.can_stand("  " + line, begun + ["  way b", "  " + end])

    def test_fault(self):
        ask = HEAD + ["  ask x lib get"]
        self.can_stand("  fault", ask)
        self.can_stand("  take x", ask)
        self.can_stand("end", ask)
        for line in ("    fault", "fault", "  fault x", "  fault ", "  end", "    take x", "  way a"):
            self.cant_stand(line, ask)
        # an end can't stand right behind fault
        for line in ("  end", "end", "    end", "  way a", "  take x", "    fault", "  fault", "      take x", "  end x"):
            self.cant_stand(line, ask + ["  fault"])
        self.can_stand("    take x", ask + ["  fault"])
        within = ask + ["  fault", "    take x"]
        self.can_stand("  end", within)
        self.can_stand("    out x", within)
        for line in ("end", "  end x", "  take x", "    fault", "  fault", "    end", "  way a"):
            self.cant_stand(line, within)
        # no fault behind its end, or behind another row than an ask
        for behind in (within + ["  end"], ask + ["  take x"], HEAD, HEAD + ["  pick", "  end"]):
            self.cant_stand("  fault", behind)
        # an ask within
        self.can_stand("    fault", ask + ["  fault", "    ask x lib get"])
        self.can_stand("  fault", within + ["  end", "  ask x lib get"])
        self.cant_stand("  fault", ask + ["  fault", "    ask x lib get"])

    def test_fault_across_ways(self):
        behind = HEAD + ["  pick", "  way a", "    ask x lib get"]
        self.can_stand("    fault", behind)
        self.cant_stand("  fault", behind)
        self.cant_stand("    fault", behind + ["  way b"])
        self.cant_stand("  fault", behind + ["  end"])
        self.cant_stand("  fault", HEAD + ["  ask x lib get", "  pick", "  way a"])

    def test_by_the_prime(self):
        self.cant_stand("  out 2", ["prime 2", "hidden", "deed go"])
        self.cant_stand("  out 2x", ["prime 2", "hidden", "deed go"])
        self.can_stand("  out 1+x", ["prime 2", "hidden", "deed go"])
        self.can_stand("  out 996+996x", ["prime 997", "hidden", "deed go"])
        self.cant_stand("  out 997", ["prime 997", "hidden", "deed go"])


class NoUnits(Reading):
    def deed(self, *rows):
        return [*HEAD, *rows, "end"]

    def test_rows_that_can_stand(self):
        self.no_unit_of(["prime 97", "hidden"])
        self.no_unit_of(["prime 97", "hidden x x", "deed go", "end"])
        self.no_unit_of(["prime 97", "hidden x y z a", "deed go", "end"])
        self.no_unit_of(["prime 97", "hidden", *["deed go", "end"] * 2])
        self.no_unit_of(["prime 97", "hidden", *[row for name in "abcde" for row in (f"deed {name}", "end")]])
        self.no_unit_of(["prime 97", "hidden", "deed go a b c d", "end"])
        self.no_unit_of(["prime 97", "hidden", "deed go a a", "end"])
        self.no_unit_of(["prime 97", "hidden x", "deed go x", "end"])

    def test_within_a_deed(self):
        self.no_unit_of(self.deed("  pick", "  end"))
        self.no_unit_of(self.deed("  loop", "  end stop"))
        self.no_unit_of(self.deed("  pick", "  way b", "  way a", "  end"))
        self.no_unit_of(self.deed("  pick", "  way a", "  way a", "  end"))
        self.no_unit_of(self.deed("  loop", "  way a", "  end a"))
        self.no_unit_of(self.deed("  pick", *[f"  way {word}" for word in "abcde"], "  end"))
        self.no_unit_of(self.deed("  out z"))
        self.no_unit_of(self.deed("  out lib.x"))
        self.no_unit_of(self.deed("  ask x lib get 0 0 0 0"))
        self.no_unit_of(self.deed("  ask x lib get 0", "  ask x lib get"))
        self.no_unit_of(self.deed(*["  take x"] * 17))
        self.no_unit_of(self.deed(*[f"  take {name}" for name in "bcde"]))
        self.assertEqual(len(self.read(self.deed(*["  take x"] * 16)).deeds()[0][2]), 16)

    def test_within_one_another(self):
        for many, is_unit in ((1, True), (3, True), (4, False), (16, False), (500, False), (3000, False)):
            rows = [row for at in range(many) for row in ("  " * (at + 1) + "pick", "  " * (at + 1) + "way a")]
            rows += ["  " * (at + 1) + "end" for at in reversed(range(many))]
            if is_unit:
                self.read(self.deed(*rows))
            else:
                self.no_unit_of(self.deed(*rows))
        rows = [row for at in range(2000) for row in ("  " * (at + 1) + "ask x u d", "  " * (at + 1) + "fault")]
        rows += ["  " * 2001 + "take x"] + ["  " * (at + 1) + "end" for at in reversed(range(2000))]
        self.no_unit_of(self.deed(*rows))

    def test_many_rows(self):
        self.no_unit_of(self.deed(*["  take x"] * 20000))
        self.no_text_of(20003, [*self.deed(*["  take x"] * 20000)[:-1], "ende"])
