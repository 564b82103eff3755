"""Lines that the desk is told, read word by word."""

from squaremates.errors import NoLine, NoText
from squaremates.papertexts import read_count, read_square, read_way

LETTERS = "abcdefghijklmnopqrstuvwxyz"
LONGEST_NAME = 8
SORTS = ("r", "c", "t")

# For each first word what stands behind it; "new" is a name by which no square need stand.
FORMS = {
    "square": ("new", "square"),
    "drop": ("name",),
    "names": (),
    "show": ("name",),
    "turn": ("name", "turning"),
    "alike": ("name", "name"),
    "least": ("name",),
    "selves": ("name",),
    "ways": ("name",),
    "way": ("name",),
    "mates": ("name", "name"),
    "mate": ("name",),
    "rings": ("name", "sort", "number", "number"),
    "exchange": ("name", "sort", "number", "number", "ring"),
    "parts": ("name", "name"),
    "round": ("number",),
    "field": ("number",),
    "number": ("name",),
    "at": ("number", "number"),
    "longer": ("name", "way"),
    "shorter": ("name",),
    "rounds": ("number",),
    "triples": ("number",),
}

# For the first words whose first number is bounded: what it can be.
BOUNDS = {"round": (1, 2, 3, 4, 5, 6, 7, 8, 9), "at": (1, 2, 3, 4, 5), "rounds": (2, 4, 6, 8)}


def read_line(line):
    """The first word of a line, and the list of tuples (kind, what is told) for those behind it."""
    first, *words = line.split(" ")
    if first not in FORMS:
        raise NoLine("no line has this first word")
    # A square's text has blanks itself.
    if first == "square":
        words = [*words[:1], " ".join(words[1:])]
    if len(words) != len(FORMS[first]):
        raise NoLine("there are more or fewer words than the line has")
    told = [(kind, read_word(kind, word)) for kind, word in zip(FORMS[first], words)]
    if first in BOUNDS and told[0][1] not in BOUNDS[first]:
        raise NoLine("the size is beyond the bounds")
    return first, told


def read_word(kind, word):
    """What a word of this kind tells."""
    try:
        return read_by_kind(kind, word)
    except NoText:
        raise NoLine("a word is not written as it should be") from None


def read_by_kind(kind, word):
    """As read_word, but refused with NoText where a text of a square, a way or a number is none."""
    if kind == "square":
        return read_square(word)
    if kind == "way":
        return read_way(word)
    if kind == "number":
        return read_count(word)
    if kind == "ring":
        return [read_count(number) for number in word.split(",")]
    if kind == "sort":
        return read_sort(word)
    if kind == "turning":
        return read_turning(word)
    return read_name(word)


def read_sort(word):
    """The sort r, c or t."""
    if word not in SORTS:
        raise NoLine("a sort is r, c or t")
    return word


def read_turning(word):
    """Any word that is one; whether it is a turning is looked at later."""
    if word == "":
        raise NoLine("there is a blank too much")
    return word


def read_name(word):
    """A name of one to eight small letters."""
    if word == "" or len(word) > LONGEST_NAME or not all(sign in LETTERS for sign in word):
        raise NoLine("a name has from one to eight small letters")
    return word
