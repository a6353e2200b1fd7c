"""Texts of written units."""

from onetrace.errors import NoText
from onetrace.forms import form_text, read_form
from onetrace.numbers import is_name, is_prime, read_figures
from onetrace.written import Written

# what is told behind the first word of a row that opens nothing: n for a name, f for a form
PLAIN = {"let": "nf", "take": "n", "out": "f", "return": "f", "fail": "n"}
PRIME_FIGURES = 3


def written_text(unit):
    """A unit's text."""
    rows = [f"prime {unit.prime()}", words_row(("hidden",) + unit.hidden(), 0)]
    for name, params, inner in unit.deeds():
        rows.append(words_row(("deed", name) + params, 0))
        rows.extend(texts_of(inner, 1))
        rows.append("end")
    return "".join([row + "\n" for row in rows])


def words_row(words, depth):
    """The row of words, so far in."""
    return "  " * depth + " ".join(words)


def texts_of(rows, depth):
    """The list of the texts of rows, so far in."""
    texts = []
    for row in rows:
        texts.append(words_row(row_words(row), depth))
        if row[0] in ("pick", "loop"):
            for word, inner in row[1]:
                texts.append(words_row(("way", word), depth))
                texts.extend(texts_of(inner, depth + 1))
            texts.append(words_row(("end",) + row[2:], depth))
        if row[0] == "ask" and row[5]:
            texts.append(words_row(("fault",), depth))
            texts.extend(texts_of(row[5], depth + 1))
            texts.append(words_row(("end",), depth))
    return texts


def row_words(row):
    """The list of the words of a row, but for those of rows within it."""
    if row[0] in ("pick", "loop"):
        return [row[0]]
    if row[0] == "ask":
        return list(row[:4]) + [form_text(form) for form in row[4]]
    shape = PLAIN[row[0]]
    return [row[0]] + [form_text(thing) if sign == "f" else thing for thing, sign in zip(row[1:], shape)]


def text_rows(text):
    """The pair of the list of a text's rows and whether the last one has its line feed; NoText of no text."""
    if not isinstance(text, str):
        raise NoText(0)
    parts = text.split("\n")
    rest = parts.pop()
    return (parts, True) if rest == "" else (parts + [rest], False)


def parted_row(row):
    """The pair of how far in a row stands, -1 where no row can, and its words."""
    bare = row.lstrip(" ")
    blanks = len(row) - len(bare)
    return (blanks // 2 if blanks % 2 == 0 else -1), bare.split(" ")


def prime_told(words):
    """The prime that the words of a first row tell, or 0."""
    if len(words) != 2 or words[0] != "prime":
        return 0
    p = read_figures(words[1], PRIME_FIGURES)
    return p if is_prime(p) else 0


def things_told(words, shape, p):
    """The tuple of what words tell, a name for each n and a form for each f of a shape, or None."""
    if len(words) != len(shape):
        return None
    things = []
    for word, sign in zip(words, shape):
        thing = read_form(word, p) if sign == "f" else word
        if thing is None or (sign == "n" and not is_name(word)):
            return None
        things.append(thing)
    return tuple(things)


class Begun:
    """A deed, pick, loop or fault that has begun and not ended: what was read of it."""

    def __init__(self, word, rows):
        self.word = word
        self.rows = rows
        self.ways = []

    def begin_way(self, word):
        """Another way, to which all rows from here on belong."""
        self.rows = []
        self.ways.append((word, self.rows))

    def told_ways(self):
        """The tuple of its ways."""
        return tuple([(word, tuple(rows)) for word, rows in self.ways])


class Reader:
    """A text on its way: what was read, and what is open."""

    def __init__(self):
        self.p = 0
        self.hidden_names = None
        self.heads = []
        self.bodies = []
        self.begun = []

    def rests(self):
        """Whether the text may end here."""
        return self.hidden_names is not None and not self.begun

    def unit_told(self):
        """The unit that was read."""
        deeds = [(head[0], head[1:], tuple(rows)) for head, rows in zip(self.heads, self.bodies)]
        return Written(self.hidden_names, tuple(deeds), prime=self.p)

    def reads(self, row):
        """Whether a row can stand here; then it is read."""
        depth, words = parted_row(row)
        if self.begun and depth == len(self.begun):
            return self.begun[-1].rows is not None and self.reads_inner(words)
        if self.begun:
            return depth == len(self.begun) - 1 and self.reads_edge(words)
        return depth == 0 and self.reads_outer(words)

    def reads_outer(self, words):
        """Whether a row can stand outside of all deeds."""
        if self.p == 0:
            self.p = prime_told(words)
            return self.p != 0
        names = things_told(words[1:], "n" * (len(words) - 1), self.p)
        if names is None or words[0] != ("hidden" if self.hidden_names is None else "deed"):
            return False
        if self.hidden_names is None:
            self.hidden_names = names
            return True
        return len(names) > 0 and self.begins_deed(names)

    def begins_deed(self, head):
        """A deed of this name and these params is open."""
        self.heads.append(head)
        self.bodies.append([])
        self.begun.append(Begun("deed", self.bodies[-1]))
        return True

    def reads_inner(self, words):
        """Whether a row can stand among rows; one that opens something is kept till that ends."""
        rows = self.begun[-1].rows
        if words in (["pick"], ["loop"]):
            self.begun.append(Begun(words[0], None))
            return True
        if words == ["fault"]:
            if not rows or rows[-1][0] != "ask" or rows[-1][5]:
                return False
            self.begun.append(Begun("fault", []))
            return True
        row = self.told_row(words)
        if row is None:
            return False
        rows.append(row)
        return True

    def told_row(self, words):
        """The row, with none within it, that words tell, or None."""
        if words[0] == "ask":
            things = things_told(words[1:], "nnn" + "f" * (len(words) - 4), self.p)
            return None if things is None else ("ask",) + things[:3] + (things[3:], ())
        things = things_told(words[1:], PLAIN.get(words[0], ""), self.p)
        return None if things is None or words[0] not in PLAIN else (words[0],) + things

    def reads_edge(self, words):
        """Whether a row can stand as far in as the one that opened what is open: a way or an end."""
        last = self.begun[-1]
        has_ways = last.word in ("pick", "loop")
        things = things_told(words[1:], "n" * (len(words) - 1), self.p)
        if things is None:
            return False
        if words[0] == "way" and has_ways and len(things) == 1:
            last.begin_way(things[0])
            return True
        many = 1 if last.word == "loop" else 0
        if words[0] != "end" or len(things) != many or (last.word == "fault" and not last.rows):
            return False
        self.begun.pop()
        self.ends(last, things)
        return True

    def ends(self, last, things):
        """What ended is a row among the others, or belongs to the ask ahead of it."""
        if last.word == "deed":
            return
        rows = self.begun[-1].rows
        if last.word == "fault":
            rows[-1] = rows[-1][:5] + (tuple(last.rows),)
        else:
            rows.append((last.word, last.told_ways()) + things)


def read_written(text):
    """The unit that has this text."""
    rows, is_whole = text_rows(text)
    reader = Reader()
    for at, row in enumerate(rows):
        if not reader.reads(row):
            raise NoText(at)
    if not is_whole or not reader.rests():
        raise NoText(len(rows))
    return reader.unit_told()
