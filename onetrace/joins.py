"""Papers made of papers: of a flow and itself, turned about, of one and two and of two and three."""

from onetrace.spaces import common, row_of, without


def alike_rows(first, other, many, width, p):
    """The rows of that width which say that so many columns from first on hold what those from other on do."""
    return tuple([row_of({first + at: 1, other + at: p - 1}, width) for at in range(many)])


def same_paper(flow):
    """A paper of a flow and itself."""
    many = len(flow.places())
    rows = alike_rows(1, 1 + many, many, 1 + 2 * many, flow.prime())
    return {(number, number): rows for number, step in enumerate(flow.steps()) if step[0] != "move"}


def turned_paper(one, other, paper):
    """The paper of other and one that a paper of one and other is."""
    middle = 1 + len(one.places())
    turned = {}
    for (number, other_number), rows in paper.items():
        turned[other_number, number] = tuple([row[:1] + row[middle:] + row[1:middle] for row in rows])
    return turned


def joined_paper(one, mid, other, first, second):
    """A paper of one and other, of a paper of one and mid and one of mid and other."""
    join = Join(one, mid, other)
    behind = {}
    for number, last in second:
        behind.setdefault(number, []).append(last)
    joined = {}
    for number, middle in first:
        for last in behind.get(middle, []):
            rows = join.rows_of(first[number, middle], second[middle, last])
            if rows is not None and (number, last) in joined:
                # what holds has to hold whichever step of mid goes along
                joined[number, last] = common(joined[number, last], rows, join.width, join.p)
            elif rows is not None:
                joined[number, last] = rows
    return joined


class Join:
    """Rows of one and mid, and of mid and other, together: the places of mid stand in the middle."""

    def __init__(self, one, mid, other):
        self.ahead = 1 + len(one.places())
        self.middle = len(mid.places())
        self.behind = len(other.places())
        self.width = self.ahead + self.behind
        self.p = one.prime()

    def rows_of(self, rows, others):
        """All rows that follow from both without mid's places, or None where (1, 0, .., 0) follows."""
        noughts, between = (0,) * self.behind, (0,) * (self.ahead - 1)
        both = [row + noughts for row in rows] + [row[:1] + between + row[1:] for row in others]
        columns = tuple(range(self.ahead, self.ahead + self.middle))
        left = without(both, columns, self.width + self.middle, self.p)
        # of reduced rows it follows just where it is one of them
        return None if row_of({0: 1}, self.width) in left else left
