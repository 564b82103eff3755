import unittest
from random import Random

from squaremates.errors import NoWay
from squaremates.longer import prolonged, shortened, ways_apart
from squaremates.makings import field_squares
from squaremates.squares import look_at_square
from tests.helpers import (
    FORTY, FOUR_ONCE, UNEVEN, WAYLESS_SIX, all_orders, all_squares, check_own, check_refused, drawn_renaming,
    drawn_squares, is_square, plain_is_way, plain_renamed, plain_ways, round_square,
)

SMALL = [*drawn_squares(70, range(1, 7), 5), *[round_square(n) for n in range(1, 7)], FOUR_ONCE,
         *UNEVEN.values(), *WAYLESS_SIX]
GREAT = [*drawn_squares(71, [7, 8], 1), round_square(7), field_squares(8)[2]]
# Squares of one to eight things, each with some ways of it.
WAYED = [(square, plain_ways(square)) for square in [*SMALL, *GREAT]]


def plain_thing(square, way, r, c):
    """What stands at row r and column c of the square prolonged, by the document's words."""
    n = len(square)
    if r == n and c == n:
        return n
    if c == n:
        return square[r][way[r]]
    if r == n:
        return [square[row][c] for row in range(n) if way[row] == c][0]
    return n if way[r] == c else square[r][c]


def plain_prolonged(square, way):
    size = len(square) + 1
    return [[plain_thing(square, way, r, c) for c in range(size)] for r in range(size)]


def plain_shortened(square):
    """The one try there is: the way goes where the last thing stands, held against what comes of it."""
    n = len(square) - 1
    if n in [row[n] for row in square[:n]] or n in square[n][:n]:
        return None
    way = [square[r].index(n) for r in range(n)]
    shorter = [[square[r][n if c == way[r] else c] for c in range(n)] for r in range(n)]
    if is_square(shorter) and plain_is_way(shorter, way) and plain_prolonged(shorter, way) == square:
        return shorter, way
    return None


def wrong_lists(square):
    """Lists that are no way of the square, for each reason that there is."""
    n = len(square)
    ways = plain_ways(square)[:2] if n < 7 else [way for other, known in WAYED if other == square for way in known[:2]]
    for way in [*ways, list(range(n))]:
        yield way[:-1]
        yield [*way, n]
        yield [*way, 0]
        for r in range(n):
            others = [c for c in way if c != way[r]]
            for wrong in (-1, -n, n, FORTY, -FORTY, way[r] - n, way[r] + n, *others):
                yield [*way[:r], wrong, *way[r + 1:]]
    yield []
    yield [0] * 100
    yield list(range(100))


class Prolonged(unittest.TestCase):
    def test_by_hand(self):
        self.assertEqual(prolonged([[0]], [0]), [[1, 0], [0, 1]])
        self.assertEqual(prolonged([[0, 1, 2], [1, 2, 0], [2, 0, 1]], [1, 2, 0]),
                         [[0, 3, 2, 1], [1, 2, 3, 0], [3, 0, 1, 2], [2, 1, 0, 3]])

    def test_by_the_words(self):
        sizes = []
        for square, ways in WAYED:
            for way in [*ways[:6], *ways[-3:]]:
                longer = prolonged(square, way)
                self.assertEqual(longer, plain_prolonged(square, way))
                self.assertIsNone(look_at_square(longer))
                self.assertTrue(is_square(longer))
                sizes.append(len(square))
        self.assertEqual(set(sizes), {1, 3, 4, 5, 6, 7, 8})

    def test_lists_that_are_no_way(self):
        for square, ways in WAYED:
            for wrong in wrong_lists(square):
                check_refused(self, NoWay, prolonged, square, wrong)

    def test_things_alike(self):
        for square in SMALL:
            for order in all_orders(len(square))[::3]:
                if not plain_is_way(square, order):
                    check_refused(self, NoWay, prolonged, square, order)
        for order in ([0, 1], [1, 0]):
            check_refused(self, NoWay, prolonged, [[0, 1], [1, 0]], order)
        check_refused(self, NoWay, prolonged, round_square(8), list(range(8)))


class Shortened(unittest.TestCase):
    def check(self, square):
        told = shortened(square)
        self.assertEqual(told, plain_shortened(square))
        if told is not None:
            self.assertIsInstance(told, tuple)
            self.assertEqual(prolonged(*told), square)
        return told

    def test_by_hand(self):
        self.assertEqual(shortened([[1, 0], [0, 1]]), ([[0]], [0]))
        self.assertIsNone(shortened([[0, 1], [1, 0]]))
        self.assertIsNone(shortened([[0]]))
        self.assertEqual(shortened([[0, 3, 2, 1], [1, 2, 3, 0], [3, 0, 1, 2], [2, 1, 0, 3]]),
                         ([[0, 1, 2], [1, 2, 0], [2, 0, 1]], [1, 2, 0]))

    def test_there_and_back(self):
        for square, ways in WAYED:
            for way in [*ways[:6], *ways[-3:]]:
                self.assertEqual(shortened(prolonged(square, way)), (square, way))

    def test_all_of_few_things(self):
        for n in (1, 2, 3):
            comes = {str(plain_prolonged(square, way)): (square, way)
                     for square in all_squares(n) for way in plain_ways(square)}
            for square in all_squares(n + 1):
                self.assertEqual(shortened(square), comes.get(str(square)))

    def test_other_squares(self):
        """Prolonged squares renamed: some come so still, most do not, each for another reason."""
        draw = Random(72)
        told = []
        for square, ways in WAYED:
            for way in ways[:3]:
                longer = plain_prolonged(square, way)
                n = len(longer)
                keep = list(range(n))
                rows, columns, things = drawn_renaming(draw, n)
                within = [*draw.sample(range(n - 1), n - 1), n - 1]
                for renaming in ((rows, keep, keep), (keep, columns, keep), (keep, keep, things),
                                 (within, keep, keep), (keep, within, keep), (keep, keep, within),
                                 (within, within, within)):
                    told.append(self.check(plain_renamed(longer, renaming)))
        for square in drawn_squares(73, range(2, 10), 6):
            told.append(self.check(square))
        self.assertGreater(min(told.count(None), len(told) - told.count(None)), 50)

    def test_last_thing_in_the_corner_alone(self):
        """Squares whose corner has the last thing, but whose last row and column do not agree."""
        found = 0
        for square in drawn_squares(74, range(3, 10), 30):
            n = len(square)
            things = list(range(n))
            things[square[-1][-1]], things[n - 1] = n - 1, square[-1][-1]
            cornered = plain_renamed(square, (list(range(n)), list(range(n)), things))
            self.assertEqual(cornered[-1][-1], n - 1)
            found += self.check(cornered) is None
        self.assertGreater(found, 50)


class Apart(unittest.TestCase):
    def test_by_hand(self):
        self.assertEqual(ways_apart([[0]], [0]), [])
        square = [[0, 1, 2], [1, 2, 0], [2, 0, 1]]
        self.assertEqual(ways_apart(square, [1, 2, 0]), [[0, 1, 2], [2, 0, 1]])

    def test_plain_going_through(self):
        many = []
        for square, ways in WAYED:
            if len(square) > 6:
                continue
            for way in ways[::5]:
                told = ways_apart(square, way)
                plain = [other for other in ways if not any(a == b for a, b in zip(way, other))]
                self.assertEqual(told, plain)
                self.assertEqual(told, sorted(told))
                many.append(len(told))
        self.assertGreater(max(many), 3)

    def test_ways_of_the_longer_square(self):
        some = 0
        for square, ways in WAYED:
            if len(square) > 6:
                continue
            for way in ways[:4]:
                longer = prolonged(square, way)
                for other in ways_apart(square, way)[:5]:
                    self.assertTrue(plain_is_way(longer, [*other, len(square)]))
                    prolonged(longer, [*other, len(square)])
                    some += 1
        self.assertGreater(some, 20)

    def test_lists_that_are_no_way(self):
        for square in SMALL:
            for wrong in wrong_lists(square):
                check_refused(self, NoWay, ways_apart, square, wrong)
            for order in all_orders(len(square))[::4]:
                if not plain_is_way(square, order):
                    check_refused(self, NoWay, ways_apart, square, order)


class Own(unittest.TestCase):
    def pairs(self):
        """Two tuples each of a square and a way, of one size."""
        for square, ways in WAYED:
            for other, known in WAYED:
                if len(square) == len(other) and ways and known:
                    yield (square, ways[0]), (other, known[-1])

    def test_prolonged_and_back(self):
        for first, second in self.pairs():
            check_own(self, prolonged, first, second)
            longer, other = prolonged(*first), prolonged(*second)
            check_own(self, shortened, (longer,), (other,))
            check_own(self, shortened, (longer,), (round_square(len(longer)),))
            check_own(self, shortened, (round_square(len(longer)),), (longer,))

    def test_apart(self):
        for first, second in self.pairs():
            if len(first[0]) < 7:
                check_own(self, ways_apart, first, second)

    def test_refused_then_not(self):
        square, way = round_square(5), list(range(5))
        for function in (prolonged, ways_apart):
            told = function(square, way)
            check_refused(self, NoWay, function, square, [0, 0, 0, 0, 0])
            self.assertEqual(function(square, way), told)
