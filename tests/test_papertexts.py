"""[16.1]: texts of papers, words of letters, and [0.2] (h)."""

import unittest

from flowmade import some_kin, twin_of
from onetrace.errors import NoText
from onetrace.finding import found
from onetrace.joins import same_paper
from onetrace.papers import is_paper
from onetrace.papertexts import letter_word, paper_text, read_letter, read_paper
from plainpapers import rewritten_rows
from test_papers import ONE, OTHER, PAPER
from things import THINGS, kept, same, some

TEXT = """pair 0 0
0 1 96
0 0 0
pair 0 10
pair 3 7
99999
pair 3 12
1 2 3 4
5
"""
TOLD = {(0, 0): ((0, 1, 96), (0, 0, 0)), (0, 10): (), (3, 7): ((99999,),), (3, 12): ((1, 2, 3, 4), (5,))}


class Texts(unittest.TestCase):
    def test_by_hand(self):
        self.assertEqual(kept(paper_text, TOLD), TEXT)
        self.assertTrue(same(kept(read_paper, TEXT), TOLD))
        self.assertEqual((paper_text({}), read_paper("")), ("", {}))
        self.assertEqual(paper_text({(0, 0): ()}), "pair 0 0\n")
        self.assertTrue(same(read_paper("pair 0 0\n"), {(0, 0): ()}))
        self.assertTrue(same(read_paper(text=paper_text(paper=TOLD)), TOLD))

    def test_keys_rise(self):
        # by numbers, not by figures
        paper = {(10, 0): (), (9, 0): (), (9, 11): (), (9, 2): ((1,),), (0, 300): ()}
        text = "pair 0 300\npair 9 0\npair 9 2\n1\npair 9 11\npair 10 0\n"
        self.assertEqual(paper_text(paper), text)
        self.assertEqual(read_paper(text), paper)
        self.assertEqual(list(read_paper(text)), sorted(paper))

    def test_papers(self):
        chance = some(150)
        for _ in range(100):
            one = some_kin(chance, primes=(2, 3, 97, 997), most=9)
            other = twin_of(chance, one)
            paper = {pair: rewritten_rows(chance, rows, one.prime()) for pair, rows in found(one, other)[1].items()}
            again = read_paper(paper_text(paper))
            self.assertTrue(same(again, dict(sorted(paper.items()))))
            self.assertTrue(is_paper(one, other, again))
        self.assertEqual(read_paper(paper_text(PAPER)), PAPER)
        self.assertTrue(is_paper(ONE, ONE, read_paper(paper_text(same_paper(ONE)))))
        self.assertTrue(is_paper(ONE, OTHER, read_paper(paper_text(found(ONE, OTHER)[1]))))

    def test_told_anew(self):
        read_paper(TEXT).clear()
        self.assertEqual(read_paper(TEXT), TOLD)


class NoTexts(unittest.TestCase):
    def refuses(self, text, row):
        with self.assertRaises(NoText) as caught:
            kept(read_paper, text)
        self.assertTrue(same(caught.exception.row, row), (text, caught.exception.row))

    def test_of_anything(self):
        for thing in THINGS:
            if not isinstance(thing, str):
                self.refuses(thing, 0)
            elif thing != "":
                self.refuses(thing, 0)

    def test_each_row(self):
        rows = TEXT.split("\n")[:-1]
        for at, row in enumerate(rows):
            bad = ["", " ", " " + row, row + " ", row.replace(" ", "  ", 1) if " " in row else row + "x", row + " x", row + " -1", row + " +1",
                   row + " 01", row + " 100000", row + " 1.0", "0" + row, "x" + row, "pairs 9 9", "pair", "pair 9", "pair 9 9 9", "pair 9 x",
                   "pair 09 9", "pair 9 09", "pair 100000 0", "pair 9 100000", "pair  9 9", "Pair 9 9", " pair 9 9", "pair 9 9 ", "pair,9,9",
                   "pair -1 0", "end", row + "\t", "\t" + row, row + "\r"]
            for line in bad:
                self.refuses("".join(other + "\n" for other in [*rows[:at], line, *rows[at + 1:]]), at)
                # the first that can't stand
                self.refuses("".join(other + "\n" for other in [*rows[:at], line, "x", *rows[at + 1:]]), at)
                # without its line feed, too
                if line != "":
                    self.refuses("".join(other + "\n" for other in rows[:at]) + line, at)

    def test_the_last_line_feed(self):
        rows = TEXT.split("\n")[:-1]
        for many in range(1, len(rows) + 1):
            self.refuses("\n".join(rows[:many]), many)
            self.assertEqual(len(paper_text(read_paper("\n".join(rows[:many]) + "\n")).split("\n")), many + 1)
        self.refuses(TEXT + "\n", len(rows))
        self.refuses("\n", 0)
        self.refuses("\n" + TEXT, 0)

    def test_keys(self):
        for last, right in (("3 8", True), ("4 0", True), ("12 0", True), ("3 10", True), ("3 7", False), ("3 6", False), ("2 99", False),
                            ("0 0", False), ("1 70", False)):
            text = f"pair 3 7\n1\npair {last}\n"
            if right:
                self.assertEqual(len(read_paper(text)), 2)
            else:
                self.refuses(text, 2)

    def test_rows_ahead_of_the_first_pair(self):
        self.refuses("1 2\n" + TEXT, 0)
        self.refuses("1 2\n", 0)
        self.refuses("0", 0)

    def test_rows_that_are_more(self):
        # widths aren't looked at
        self.assertEqual(read_paper("pair 99999 99999\n0\n0 0\n"), {(99999, 99999): ((0,), (0, 0))})


class Letters(unittest.TestCase):
    def test_words(self):
        for letter, word in ((("add", (3, 4)), "add(3,4)"), (("add", ()), "add()"), (("abcdefgh", (96,)), "abcdefgh(96)"), ("left", "left"),
                             (7, "7"), (0, "0"), ("!", "!"), (99999, "99999"), (("add", (0, 99999, 10)), "add(0,99999,10)")):
            self.assertEqual(kept(letter_word, letter), word)
            self.assertTrue(same(kept(read_letter, word), letter))

    def test_no_words(self):
        for word in ("", " ", "Add", "add(", "add)", "add(3", "add(34", "add(3,", "add(3,)", "add(,3)", "add(,)", "add(3 ,4)", "add( )", "add(3,4))",
                     "add((3)", "add(03)", "add(100000)", "add(-1)", "add(x)", "(3)", "()", "(", "abcdefghi(3)", "abcdefghi", "A(3)", "1(3)", "add()x",
                     "add(3)4", "07", "00", "100000", "-1", "+1", "!!", "a1", "a.b", "1a", "add(3);", "left!", "!(3)", "add(!)", "add(3\n)", "7\n"):
            self.assertIsNone(read_letter(word), word)


if __name__ == "__main__":
    unittest.main()
