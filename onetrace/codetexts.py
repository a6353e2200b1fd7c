"""Texts of coded units."""

from onetrace.coded import CELLS, REGISTERS, SHAPES, Coded
from onetrace.errors import NoText
from onetrace.numbers import is_name, is_number, read_figures
from onetrace.writtentexts import parted_row, prime_told, text_rows, words_row

MOST_FIGURES = 3


def coded_text(unit):
    """A unit's text."""
    rows = [f"prime {unit.prime()}", f"cells {unit.hidden()}"]
    for name, many, code in unit.deeds():
        rows.append(f"deed {name} {many}")
        rows.extend([words_row(words_of(step), 1) for step in code])
        rows.append("end")
    return "".join([row + "\n" for row in rows])


def words_of(step):
    """The list of the words of an instruction."""
    if step[0] == "pick":
        return ["pick"] + [str(thing) for way in step[1] for thing in way]
    return [str(thing) for thing in step]


def thing_told(word, sign, p):
    """What a word tells where a shape has this sign, or None."""
    if sign == "u":
        return word if word in REGISTERS + CELLS else None
    if sign == "d":
        return word if is_name(word) else None
    n = read_figures(word, MOST_FIGURES)
    return n if sign != "n" or is_number(n, p) else None


def things_told(words, shape, p):
    """The tuple of what words tell, one for each sign of a shape, or None."""
    if len(words) != len(shape):
        return None
    things = tuple([thing_told(word, sign, p) for word, sign in zip(words, shape)])
    return None if None in things else things


def instruction_told(words, p):
    """The instruction that words tell, or None."""
    if words[0] not in SHAPES:
        return None
    if words[0] != "pick":
        things = things_told(words[1:], SHAPES[words[0]], p)
        return None if things is None else (words[0],) + things
    many = len(words) // 2
    things = things_told(words[1:], "dt" * many, p)
    if things is None or many == 0:
        return None
    return "pick", tuple(zip(things[::2], things[1::2]))


class CodeReader:
    """A text on its way: what was read of a unit."""

    def __init__(self):
        self.p = 0
        self.cells = None
        self.heads = []
        self.codes = []
        self.within = False

    def rests(self):
        """Whether the text may end here."""
        return self.cells is not None and not self.within

    def unit_told(self):
        """The unit that was read."""
        deeds = [head + (tuple(code),) for head, code in zip(self.heads, self.codes)]
        return Coded(self.cells, tuple(deeds), prime=self.p)

    def reads(self, row):
        """Whether a row can stand here; then it is read."""
        depth, words = parted_row(row)
        if self.within and depth == 1:
            return self.reads_instruction(words)
        if depth != 0:
            return False
        if self.within:
            self.within = words != ["end"]
            return not self.within
        return self.reads_outer(words)

    def reads_instruction(self, words):
        """Whether a row can stand within a deed."""
        step = instruction_told(words, self.p)
        if step is None:
            return False
        self.codes[-1].append(step)
        return True

    def reads_outer(self, words):
        """Whether a row can stand outside of all deeds."""
        if self.p == 0:
            self.p = prime_told(words)
            return self.p != 0
        if self.cells is None:
            told = things_told(words[1:], "m", self.p)
            if words[0] != "cells" or told is None:
                return False
            self.cells = told[0]
            return True
        head = things_told(words[1:], "dm", self.p)
        if words[0] != "deed" or head is None:
            return False
        self.heads.append(head)
        self.codes.append([])
        self.within = True
        return True


def read_coded(text):
    """The unit that has this text."""
    rows, is_whole = text_rows(text)
    reader = CodeReader()
    for at, row in enumerate(rows):
        if not reader.reads(row):
            raise NoText(at)
    if not is_whole or not reader.rests():
        raise NoText(len(rows))
    return reader.unit_told()
