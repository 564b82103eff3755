"""A desk that keeps squares by names and answers lines."""

from squaremates.desklines import read_line
from squaremates.errors import NoLine, NoName
from squaremates.exchanges import exchanged, parts, rings
from squaremates.leastforms import alike, least_form, selves
from squaremates.longer import prolonged, shortened
from squaremates.makings import field_squares, round_square
from squaremates.mates import are_mates, mate_or_tree
from squaremates.numbered import number_of, square_at
from squaremates.papertexts import show_square, show_way
from squaremates.rounds import made_rounds
from squaremates.squares import turned
from squaremates.triples import made_triples
from squaremates.ways import first_way, ways

# For each line that does not take squares of every size the most things that they can have.
MOST_THINGS = {"alike": 6, "least": 6, "selves": 6, "ways": 6, "way": 6, "mate": 5, "number": 5, "longer": 8}


def yes_or_no(truth):
    """The word for a truth."""
    return "yes" if truth else "no"


def answer_show(square):
    """The text of the square."""
    return show_square(square)


def answer_turn(square, turning):
    """The text of the square turned."""
    return show_square(turned(square, turning))


def answer_alike(one, other):
    """Whether a renaming takes the one square to the other."""
    return yes_or_no(len(one) == len(other) and alike(one, other) is not None)


def answer_least(square):
    """The text of the square's least form."""
    form, renaming = least_form(square)
    return show_square(form)


def answer_selves(square):
    """How many renamings take the square to itself."""
    return str(selves(square))


def answer_ways(square):
    """How many ways the square has."""
    return str(len(ways(square)))


def answer_way(square):
    """The text of the square's first way, or none."""
    way = first_way(square, [])
    return "none" if way is None else show_way(way)


def answer_mates(one, other):
    """Whether the two squares are mates."""
    return yes_or_no(len(one) == len(other) and are_mates(one, other))


def answer_mate(square):
    """The text of a mate of the square, or none."""
    word, shown = mate_or_tree(square)
    return show_square(shown) if word == "mate" else "none"


def answer_rings(square, sort, i, k):
    """The rings of two rows, columns or things."""
    return " ".join([",".join([str(number) for number in ring]) for ring in rings(square, sort, i, k)])


def answer_parts(one, other):
    """How many parts there are between two squares, or unlike."""
    return str(len(parts(one, other))) if len(one) == len(other) else "unlike"


def answer_round(n):
    """The text of the round square."""
    return show_square(round_square(n))


def answer_field(q):
    """The texts of the field squares."""
    return "; ".join([show_square(square) for square in field_squares(q)])


def answer_number(square):
    """The number of the square among all of its size."""
    return str(number_of(square))


def answer_at(n, number):
    """The text of the square that has the number."""
    return show_square(square_at(n, number))


def answer_shorter(square):
    """The texts of the shortened square and of the way, or none."""
    found = shortened(square)
    if found is None:
        return "none"
    shorter, way = found
    return f"{show_square(shorter)} by {show_way(way)}"


def answer_rounds(m):
    """The made rounds."""
    return "; ".join([" ".join([f"{a}-{b}" for a, b in pairs]) for pairs in made_rounds(m)])


def answer_triples(n):
    """The made triples, or none."""
    return " ".join([f"{a}{b}{c}" for a, b, c in made_triples(n)]) or "none"


# The lines that are answered by what they tell of, and change nothing.
ANSWERS = {
    "show": answer_show, "turn": answer_turn, "alike": answer_alike, "least": answer_least, "selves": answer_selves,
    "ways": answer_ways, "way": answer_way, "mates": answer_mates, "mate": answer_mate, "rings": answer_rings,
    "parts": answer_parts, "round": answer_round, "field": answer_field, "number": answer_number, "at": answer_at,
    "shorter": answer_shorter, "rounds": answer_rounds, "triples": answer_triples,
}


def new_square(first, values):
    """The square that stands by the name from now on, by a line with this first word."""
    if first == "exchange":
        return exchanged(*values)
    if first == "longer":
        return prolonged(*values)
    name, square = values
    return square


class Desk:
    """Squares kept by names."""

    def __init__(self):
        self.squares = {}

    def say(self, line):
        """The answer to a line, or refused."""
        first, told = read_line(line)
        if first == "names":
            return " ".join(list(self.squares)) or "none"
        values = self.values_of(first, told)
        if first in ANSWERS:
            answer = ANSWERS[first]
            return answer(*values)
        name = told[0][1]
        if first == "drop":
            del self.squares[name]
        else:
            self.squares[name] = new_square(first, values)
        return "ok"

    def values_of(self, first, told):
        """What is told in a line with this first word, the squares themselves in the place of their names."""
        names = [word for kind, word in told if kind == "name"]
        if not all(name in self.squares for name in names):
            raise NoName("no square stands by this name")
        if first in MOST_THINGS and any(len(self.squares[name]) > MOST_THINGS[first] for name in names):
            raise NoLine("the square has too many things")
        return [self.squares[word] if kind == "name" else word for kind, word in told]
