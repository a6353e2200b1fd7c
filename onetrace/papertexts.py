"""Texts of papers, and words of letters."""

from onetrace.errors import NoText
from onetrace.numbers import is_name, read_figures
from onetrace.writtentexts import text_rows

MOST_FIGURES = 5


def paper_text(paper):
    """A paper's text."""
    rows = []
    for number, other in sorted(paper):
        rows.append(f"pair {number} {other}")
        rows.extend([" ".join([str(n) for n in row]) for row in paper[number, other]])
    return "".join([row + "\n" for row in rows])


def numbers_told(words):
    """The tuple of the numbers that words tell, or None."""
    numbers = tuple([read_figures(word, MOST_FIGURES) for word in words])
    return None if None in numbers else numbers


class PaperReader:
    """A text on its way: what was read of a paper."""

    def __init__(self):
        self.pairs_told = []
        self.rows_told = []

    def reads(self, row):
        """Whether a row can stand here; then it is read."""
        words = row.split(" ")
        if words[0] == "pair":
            return self.reads_pair(numbers_told(words[1:]))
        numbers = numbers_told(words)
        if numbers is None or not self.pairs_told:
            return False
        self.rows_told[-1].append(numbers)
        return True

    def reads_pair(self, pair):
        """Whether a pair can stand behind those ahead of it."""
        if pair is None or len(pair) != 2 or (self.pairs_told and pair <= self.pairs_told[-1]):
            return False
        self.pairs_told.append(pair)
        self.rows_told.append([])
        return True


def read_paper(text):
    """The paper that has this text."""
    rows, is_whole = text_rows(text)
    reader = PaperReader()
    for at, row in enumerate(rows):
        if not reader.reads(row):
            raise NoText(at)
    if not is_whole:
        raise NoText(len(rows))
    return {pair: tuple(told) for pair, told in zip(reader.pairs_told, reader.rows_told)}


def letter_word(letter):
    """A letter's word."""
    if isinstance(letter, tuple):
        numbers = ",".join([str(n) for n in letter[1]])
        return f"{letter[0]}({numbers})"
    return str(letter)


def read_letter(word):
    """The letter that has this word, or None."""
    if word == "!" or is_name(word):
        return word
    deed, _, rest = word.partition("(")
    if rest == "":
        return read_figures(word, MOST_FIGURES)
    numbers = () if rest == ")" else numbers_told(rest[:-1].split(","))
    return (deed, numbers) if is_name(deed) and rest.endswith(")") and numbers is not None else None
