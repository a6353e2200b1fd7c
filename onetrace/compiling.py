"""The compiler: written units as code.

Variables stand in the last four registers, hidden names in the cells. What an ask asks with, what it answers and what
a deed is done with stand in the first three; the fourth one is for what is reckoned on the way.
"""

from onetrace.coded import CELLS, REGISTERS, Coded
from onetrace.errors import NoStyle
from onetrace.written import variables_of

STYLE = "plain"
STYLES = ("plain", "near")
FIRST = "a"
SIDE = "d"
OWN = ("e", "f", "g", "h")
NOUGHT = (0, ())


def compiled(unit, *, style=STYLE):
    """The coded unit that does what a written one does."""
    if style not in STYLES:
        raise NoStyle("there is no such style")
    deeds = []
    for deed in unit.deeds():
        name, params, rows = deed
        spots = dict(zip(unit.hidden(), CELLS))
        spots.update(dict(zip(variables_of(deed, unit.hidden()), OWN)))
        making = CodeMaking(spots, style == "near")
        deeds.append((name, len(params), making.deed_code(len(params), rows)))
    return Coded(len(unit.hidden()), tuple(deeds), prime=unit.prime())


class CodeMaking:
    """The code of a deed as it is made."""

    def __init__(self, spots, is_near):
        # of each name the register or the cell where it stands
        self.spots = spots
        self.is_near = is_near
        self.code = []

    def deed_code(self, many, rows):
        """The code of a deed of so many params and these rows."""
        self.code.extend([("copy", own, came) for own, came in zip(OWN[:many], REGISTERS)])
        self.add_rows(rows)
        make_return(self, ("return", NOUGHT))
        return tuple(self.code)

    def add_rows(self, rows):
        """The code of rows comes behind all that is there."""
        for row in rows:
            make = MAKES[row[0]]
            make(self, row)

    def terms_of(self, form):
        """The list of the pairs of a register or cell and how often a form has it."""
        return [(self.spots[place], k) for place, k in form[1]]

    def add_worth(self, form, goal):
        """The goal comes to be what a form is worth; in plain code it is none of its places."""
        terms = self.terms_of(form)
        if self.is_near:
            self.code.extend(near_worth(form[0], terms, goal))
            return
        self.code.append(("set", goal, form[0]))
        for spot, k in terms:
            self.code.extend([("copy", SIDE, spot), ("times", SIDE, k), ("plus", goal, SIDE)])

    def held_place(self):
        """The number of an instruction that is told later."""
        self.code.append(("ret",))
        return len(self.code) - 1

    def add_ways(self, ways, goal):
        """The list of the words of ways and the first instructions of their rows, which come behind all that is there.

        Behind its rows each leads to the goal, or behind all of them where that is None.
        """
        firsts, ends = [], []
        for word, rows in ways:
            firsts.append((word, len(self.code)))
            self.add_rows(rows)
            ends.append(self.held_place())
        for end in ends:
            self.code[end] = ("go", len(self.code) if goal is None else goal)
        return firsts


def near_worth(n, terms, goal):
    """The instructions by which a goal comes to be a number and multiples of places, it itself perhaps among them."""
    own = [k for spot, k in terms if spot == goal]
    rest = [(spot, k) for spot, k in terms if spot != goal]
    code = []
    if own:
        code.extend(multiplied(goal, own[0]))
    elif n == 0 and rest:
        spot, k = rest.pop(0)
        code.append(("copy", goal, spot))
        code.extend(multiplied(goal, k))
    else:
        code.append(("set", goal, n))
    for spot, k in rest:
        if k == 1:
            code.append(("plus", goal, spot))
        else:
            code.extend([("copy", SIDE, spot), ("times", SIDE, k), ("plus", goal, SIDE)])
    if own and n != 0:
        code.extend([("set", SIDE, n), ("plus", goal, SIDE)])
    # what is let be itself is one instruction, too
    return code if code else [("copy", goal, goal)]


def multiplied(spot, k):
    """The list of the instruction by which a place comes to be k times as much, if that is needed."""
    return [("times", spot, k)] if k != 1 else []


def make_let(making, row):
    """A name comes to be what a form is worth."""
    spot = making.spots[row[1]]
    if making.is_near:
        making.add_worth(row[2], spot)
    else:
        # the form may have the name in it
        making.add_worth(row[2], FIRST)
        making.code.append(("copy", spot, FIRST))


def make_take(making, row):
    """A number comes."""
    making.code.append(("take", making.spots[row[1]]))


def make_out(making, row):
    """A number is told."""
    terms = making.terms_of(row[1])
    if making.is_near and row[1][0] == 0 and len(terms) == 1 and terms[0][1] == 1:
        making.code.append(("out", terms[0][0]))
    else:
        making.add_worth(row[1], FIRST)
        making.code.append(("out", FIRST))


def make_pick(making, row):
    """A word comes; behind its rows it goes on behind all of them."""
    at = making.held_place()
    making.code[at] = ("pick", tuple(making.add_ways(row[1], None)))


def make_loop(making, row):
    """A word comes; behind its rows one comes again, but behind the last word."""
    at = making.held_place()
    firsts = making.add_ways(row[1], at)
    making.code[at] = ("pick", tuple(sorted(firsts + [(row[2], len(making.code))])))


def make_ask(making, row):
    """An answer comes, or a fault, for which the rows are done."""
    _, x, unit, deed, forms, rows = row
    for form, goal in zip(forms, REGISTERS):
        making.add_worth(form, goal)
    at = making.held_place()
    making.code.append(("copy", making.spots[x], FIRST))
    if rows:
        end = making.held_place()
        fault = len(making.code)
        making.add_rows(rows)
        making.code[end] = ("go", len(making.code))
    else:
        fault = len(making.code)
    making.code[at] = ("ask", unit, deed, len(forms), fault)


def make_return(making, row):
    """The call is done."""
    making.add_worth(row[1], FIRST)
    making.code.append(("ret",))


def make_fail(making, row):
    """The call fails."""
    making.code.append(("fail", row[1]))


MAKES = {
    "let": make_let, "take": make_take, "out": make_out, "pick": make_pick, "loop": make_loop, "ask": make_ask,
    "return": make_return, "fail": make_fail,
}
