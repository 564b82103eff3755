"""Squares, ways and papers written as texts, and read again."""

from squaremates.errors import NoSquare, NoText
from squaremates.squares import MOST, is_order, look_at_square

FIGURES = "0123456789"
SMALL_FIGURES = "012345678"
MOST_FIGURES = 40
DEEPEST = 50
HEADS = ("mod", "rows", "columns", "things")
SORTS = ("row", "column", "thing")


def show_square(square):
    """The text of a square: its rows with a blank between."""
    return " ".join([show_way(row) for row in square])


def show_way(way):
    """The text of a way: its columns' figures."""
    return "".join([str(c) for c in way])


def show_cell(cell):
    """The text of a cell: its two figures."""
    row, column = cell
    return f"{row}{column}"


def show_numbers(numbers):
    """The text of numbers: a blank between."""
    return " ".join([str(number) for number in numbers])


def show_sum(paper):
    """The text of a sum paper."""
    m, rows, columns, things = paper
    lists = f"rows {show_numbers(rows)}; columns {show_numbers(columns)}; things {show_numbers(things)}"
    return f"mod {m}; {lists}"


def show_tree(tree):
    """The text of a case tree."""
    sort, told, branches = tree
    if sort == "sum":
        return f"sum ({show_sum(told)})"
    inner = "; ".join([f"{show_cell(cell)}: {show_tree(below)}" for cell, below in branches])
    return f"{sort} {told} [{inner}]"


def show_mate_tree(tree):
    """The text of a mate tree."""
    cell, branches = tree
    inner = "; ".join([f"{show_way(way)}: {show_mate_tree(below)}" for way, below in branches])
    return f"{show_cell(cell)} [{inner}]"


def read_things(text):
    """The figures of a text, each as a number."""
    if not all(sign in FIGURES for sign in text):
        raise NoText("only figures can stand here")
    return [int(sign) for sign in text]


def read_square(text):
    """The square that the text writes."""
    square = [read_things(row) for row in text.split(" ")]
    try:
        look_at_square(square)
    except NoSquare:
        raise NoText("the rows are no square") from None
    return square


def read_way(text):
    """The way that the text writes, of whatever square."""
    way = read_things(text)
    n = len(way)
    if n < 1 or n > MOST or not is_order(n, way):
        raise NoText("a way has unlike columns, each less than their count")
    return way


def read_count(text):
    """The number, not below 0, that the text writes."""
    if text == "" or len(text) > MOST_FIGURES or not all(sign in FIGURES for sign in text):
        raise NoText("a number has from one to forty figures")
    if text[0] == "0" and text != "0":
        raise NoText("the first figure is no 0 but 0 itself")
    return int(text)


def read_number(text):
    """The number that the text writes."""
    if not text.startswith("-"):
        return read_count(text)
    below = read_count(text[1:])
    if below == 0:
        raise NoText("0 has no sign")
    return -below


def read_numbers(head, text):
    """The numbers that the text writes behind this word."""
    word, *figures = text.split(" ")
    if word != head or len(figures) < 1 or len(figures) > MOST:
        raise NoText("a list has its word and from one to nine numbers")
    return [read_number(number) for number in figures]


def read_sum(text):
    """The sum paper that the text writes."""
    parts = text.split("; ")
    if len(parts) != len(HEADS):
        raise NoText("a sum paper has four parts")
    moduli, rows, columns, things = [read_numbers(head, part) for head, part in zip(HEADS, parts)]
    if len(moduli) != 1:
        raise NoText("a sum paper has one number to divide by")
    return moduli[0], rows, columns, things


class Reader:
    """A text of a tree, and how far it is read."""

    def __init__(self, text):
        self.text = text
        self.at = 0

    def stands(self, word):
        """Whether the word stands next."""
        return self.text.startswith(word, self.at)

    def skip(self, word):
        """Go on behind the word that must stand next."""
        if not self.stands(word):
            raise NoText("another word should stand here")
        self.at += len(word)

    def ahead_of(self, mark):
        """What stands ahead of the next such mark; go on behind the mark."""
        start = self.at
        found = self.text.find(mark, start)
        if found < 0:
            raise NoText("a mark is missing")
        self.at = found + len(mark)
        return self.text[start:found]

    def small_number(self):
        """The number from 0 to 8 whose figure stands next."""
        sign = self.text[self.at:self.at + 1]
        if sign == "" or sign not in SMALL_FIGURES:
            raise NoText("a number from 0 to 8 should stand here")
        self.at += 1
        return int(sign)

    def finish(self):
        """Refuse what stands behind."""
        if self.at != len(self.text):
            raise NoText("there is more than a tree")


def cell_at(reader):
    """The cell that stands next."""
    row = reader.small_number()
    return row, reader.small_number()


def look_at_depth(left):
    """Refuse a tree where no level is left for it."""
    if left < 1:
        raise NoText("a tree is at most fifty deep")


def case_tree_at(reader, left):
    """The case tree, of at most so many levels, that stands next."""
    look_at_depth(left)
    sort = reader.ahead_of(" ")
    if sort == "sum":
        reader.skip("(")
        return "sum", read_sum(reader.ahead_of(")")), []
    if sort not in SORTS:
        raise NoText("there is no such sort")
    number = reader.small_number()
    reader.skip(" [")
    return sort, number, branches_at(reader, case_branch_at, left - 1)


def mate_tree_at(reader, left):
    """The mate tree, of at most so many levels, that stands next."""
    look_at_depth(left)
    cell = cell_at(reader)
    reader.skip(" [")
    return cell, branches_at(reader, mate_branch_at, left - 1)


def branches_at(reader, branch_at, left):
    """The branches that stand next, up to the bracket that closes them."""
    branches = []
    while not reader.stands("]"):
        if branches:
            reader.skip("; ")
        branches.append(branch_at(reader, left))
    reader.skip("]")
    return branches


def case_branch_at(reader, left):
    """The tuple of a cell and a case tree that stands next."""
    cell = cell_at(reader)
    reader.skip(": ")
    return cell, case_tree_at(reader, left)


def mate_branch_at(reader, left):
    """The tuple of a way and a mate tree that stands next."""
    way = read_way(reader.ahead_of(": "))
    return way, mate_tree_at(reader, left)


def read_tree(text):
    """The case tree that the text writes."""
    reader = Reader(text)
    tree = case_tree_at(reader, DEEPEST)
    reader.finish()
    return tree


def read_mate_tree(text):
    """The mate tree that the text writes."""
    reader = Reader(text)
    tree = mate_tree_at(reader, DEEPEST)
    reader.finish()
    return tree
