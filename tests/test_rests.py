import unittest
from itertools import permutations, product
from random import Random

from squaremates.mates import partings
from squaremates.rests import (
    all_mates, differences, is_spread, neighbourly, shifted, spread_orders, spread_square, zigzag,
)
from tests.helpers import (
    FORTY, FOUR_ONCE, all_orders, all_squares, check_own, drawn_order, drawn_renaming, drawn_square, drawn_squares,
    is_square, plain_is_way, plain_mates, plain_renamed, plain_turned, plain_ways, round_square,
)

LONE_FIVE = [[0, 1, 2, 3, 4], [1, 0, 3, 4, 2], [2, 3, 4, 0, 1], [3, 4, 1, 2, 0], [4, 2, 0, 1, 3]]


def plain_differences(n, order):
    return [(order[k] - order[k - 1]) % n for k in range(1, len(order))]


def plain_spread(n, order):
    told = plain_differences(n, order)
    return sorted(order) == list(range(n)) and all(told.count(difference) == 1 for difference in told)


def spread_samples(n):
    """Spread orders, those that do not begin with 0 among them."""
    for order in [order for order in all_orders(n) if order[0] == 0 and plain_spread(n, order)][:6]:
        for more in range(n):
            yield [(k + more) % n for k in order]
        yield order[::-1]


def plain_neighbourly(square):
    rows = [(a, b) for row in square for a, b in zip(row[:-1], row[1:])]
    columns = [(a, b) for upper, lower in zip(square[:-1], square[1:]) for a, b in zip(upper, lower)]
    return len(rows) == len(set(rows)), len(columns) == len(set(columns))


def first_rowed(n):
    """All squares of n things whose first row is in order."""
    found = [[list(range(n))]]
    for r in range(1, n):
        found = [[*rows, list(order)] for rows in found for order in permutations(range(n))
                 if all(row[c] != order[c] for row in rows for c in range(n))]
    return found


FIRST_ROWED = {n: first_rowed(n) for n in range(1, 6)}


def plain_all_mates(square):
    return [mate for mate in FIRST_ROWED[len(square)] if plain_mates(square, mate)]


class Differences(unittest.TestCase):
    def test_by_hand(self):
        self.assertEqual(differences(4, [0, 3, 1, 2]), [3, 2, 1])
        self.assertEqual(differences(5, [7]), [])
        self.assertEqual(differences(5, []), [])
        self.assertEqual(differences(1, [4, -9, 4]), [0, 0])
        self.assertEqual(differences(10, [-3, FORTY, -FORTY, 0]), [2, 2, 9])

    def test_any_lists(self):
        draw = Random(140)
        for n in [*range(1, 13), 100, FORTY]:
            for length in (0, 1, 2, 3, 8, 100):
                for most in (n, 20, FORTY):
                    order = [draw.randint(-most, most) for k in range(length)]
                    self.assertEqual(differences(n, order), plain_differences(n, order))


    def test_somewhat_beyond(self):
        """Nothing is promised of these but that no error comes."""
        for n in (0, -1):
            self.assertEqual((differences(n, [0, 5, 3]), zigzag(n), spread_orders(n)), ([], [], []))


class Spread(unittest.TestCase):
    def test_by_hand(self):
        self.assertIs(is_spread(1, [0]), True)
        self.assertIs(is_spread(2, [1, 0]), True)
        self.assertIs(is_spread(4, [0, 3, 1, 2]), True)
        self.assertIs(is_spread(4, [0, 1, 2, 3]), False)
        self.assertIs(is_spread(4, [0, 3, 1]), False)
        self.assertIs(is_spread(4, [0, 3, 1, 6]), False)

    def test_all_lists_of_small_numbers(self):
        for n in range(1, 5):
            for length in range(n + 2):
                for order in product(range(-1, n + 1), repeat=length):
                    self.assertIs(is_spread(n, list(order)), plain_spread(n, list(order)))

    def test_orders(self):
        for n in (5, 6, 7):
            found = [order for order in all_orders(n) if is_spread(n, order)]
            self.assertEqual(found, [order for order in all_orders(n) if plain_spread(n, order)])
            self.assertEqual(found == [], n % 2 == 1)

    def test_lists_that_are_otherwise(self):
        for n in (1, 2, 4, 6, 8):
            for order in list(spread_samples(n))[:20]:
                self.assertIs(is_spread(n, order), True)
                self.assertIs(is_spread(n, order[:-1]), False)
                self.assertIs(is_spread(n, [*order, n]), False)
                self.assertIs(is_spread(n + 1, order), False)
                self.assertIs(is_spread(FORTY, order), False)
                for at in range(n):
                    for wrong in (-1, n, FORTY, -FORTY, order[at] + n, order[at] - n, order[at - 1] if n > 1 else 1):
                        self.assertIs(is_spread(n, [*order[:at], wrong, *order[at + 1:]]), False)
        self.assertIs(is_spread(8, [0] * 100), False)
        self.assertIs(is_spread(8, []), False)

    def test_all_that_begin_with_0(self):
        for n in range(1, 9):
            plain = [[0, *rest] for rest in permutations(range(1, n)) if plain_spread(n, [0, *rest])]
            self.assertEqual(spread_orders(n), plain)
        self.assertEqual([len(spread_orders(n)) for n in range(1, 9)], [1, 1, 0, 2, 0, 4, 0, 24])
        self.assertEqual(spread_orders(4), [[0, 1, 3, 2], [0, 3, 1, 2]])


class Zigzag(unittest.TestCase):
    def test_by_hand(self):
        self.assertEqual(zigzag(1), [0])
        self.assertEqual(zigzag(2), [0, 1])
        self.assertEqual(zigzag(3), [0, 2, 1])
        self.assertEqual(zigzag(8), [0, 7, 1, 6, 2, 5, 3, 4])
        self.assertEqual(zigzag(11), [0, 10, 1, 9, 2, 8, 3, 7, 4, 6, 5])

    def test_by_the_words(self):
        for n in range(1, 13):
            low_and_high = [k for pair in zip(range(n), range(n - 1, -1, -1)) for k in pair]
            self.assertEqual(zigzag(n), low_and_high[:n])
            self.assertIs(is_spread(n, zigzag(n)), n == 1 or n % 2 == 0)
            if n in (2, 4, 6, 8):
                self.assertIn(zigzag(n), spread_orders(n))


class Neighbourly(unittest.TestCase):
    def test_by_hand(self):
        self.assertEqual(spread_square(4, [0, 3, 1, 2]), [[0, 3, 1, 2], [3, 2, 0, 1], [1, 0, 2, 3], [2, 1, 3, 0]])
        self.assertEqual(neighbourly([[0]]), (True, True))
        self.assertEqual(neighbourly([[0, 1], [1, 0]]), (True, True))
        self.assertEqual(neighbourly(round_square(3)), (False, False))

    def test_squares_of_spread_orders(self):
        for n in (1, 2, 4, 6, 8):
            for order in spread_samples(n):
                square = spread_square(n, order)
                self.assertTrue(is_square(square))
                self.assertEqual(square, [[(order[r] + order[c]) % n for c in range(n)] for r in range(n)])
                told = neighbourly(square)
                self.assertEqual(told, (True, True))
                self.assertIs(told[0], True)
                self.assertIs(told[1], True)
                pairs = [pair for row in square for pair in zip(row, row[1:])]
                self.assertEqual(sorted(pairs), [(a, b) for a in range(n) for b in range(n) if a != b])

    def test_one_alone(self):
        """With its rows in another order a square is as neighbourly in rows as it was, and likewise with columns."""
        draw = Random(141)
        told = []
        for n in (4, 6, 8):
            keep = list(range(n))
            for order in list(spread_samples(n))[:10]:
                square = spread_square(n, order)
                other = plain_renamed(square, (drawn_order(draw, n), keep, drawn_order(draw, n)))
                mirrored = plain_turned(other, "crt")
                self.assertIs(neighbourly(other)[0], True)
                self.assertIs(neighbourly(mirrored)[1], True)
                told += [neighbourly(other), neighbourly(mirrored)]
                self.assertEqual(told[-1], plain_neighbourly(mirrored))
                self.assertEqual(told[-2], plain_neighbourly(other))
        self.assertGreater(told.count((True, False)), 10)
        self.assertGreater(told.count((False, True)), 10)

    def test_any_squares(self):
        told = []
        squares = [square for n in (1, 2, 3, 4) for square in all_squares(n)]
        for square in [*squares, *drawn_squares(142, range(5, 10), 10), *[round_square(n) for n in range(1, 10)]]:
            told.append(neighbourly(square))
            self.assertIsInstance(told[-1], tuple)
            self.assertEqual(told[-1], plain_neighbourly(square))
        self.assertEqual(set(told), {(a, b) for a in (True, False) for b in (True, False)})


class Shifted(unittest.TestCase):
    def test_by_hand(self):
        self.assertEqual(shifted([0]), [[0]])
        self.assertEqual(shifted([0, 1, 2]), [[0, 1, 2], [1, 2, 0], [2, 0, 1]])
        self.assertEqual(shifted([2, 0, 3, 1, 4])[2], [4, 2, 0, 3, 1])

    def test_partings(self):
        for n in (1, 3, 5, 7, 9):
            square = round_square(n)
            ways = plain_ways(square)[::7] if n < 8 else [[step * k % n for k in range(n)] for step in (1, 4, 7)]
            for way in ways:
                told = shifted(way)
                self.assertEqual(len(told), n)
                for more, other in enumerate(told):
                    self.assertTrue(plain_is_way(square, other))
                    self.assertEqual(other, [(c + more) % n for c in way])
                cells = [(r, c) for other in told for r, c in enumerate(other)]
                self.assertEqual(sorted(cells), [(r, c) for r in range(n) for c in range(n)])


class AllMates(unittest.TestCase):
    def check(self, square):
        told = all_mates(square)
        self.assertEqual(told, plain_all_mates(square))
        self.assertEqual(len(told), partings(square))
        self.assertEqual(told, sorted(told))
        return len(told)

    def test_by_hand(self):
        self.assertEqual(all_mates([[0]]), [[[0]]])
        self.assertEqual(all_mates([[0, 1], [1, 0]]), [])
        self.assertEqual(all_mates(round_square(3)), [[[0, 1, 2], [2, 0, 1], [1, 2, 0]]])
        self.assertEqual(all_mates(round_square(4)), [])
        self.assertEqual(len(all_mates(FOUR_ONCE)), 2)
        self.assertEqual(len(all_mates(round_square(5))), 3)
        self.assertEqual(all_mates(LONE_FIVE), [])

    def test_plain_going_through(self):
        for n in (1, 2, 3):
            for square in all_squares(n):
                self.check(square)
        self.assertEqual({self.check(square) for square in all_squares(4)[::5]}, {0, 2})

    def test_five_things(self):
        draw = Random(143)
        many = [self.check(square) for square in drawn_squares(144, [5], 15)]
        many += [self.check(plain_renamed(round_square(5), drawn_renaming(draw, 5))) for time in range(15)]
        self.assertEqual(set(many), {0, 3})


class Own(unittest.TestCase):
    def test_of_orders(self):
        draw = Random(145)
        for n in range(1, 9):
            one, other = drawn_order(draw, n), zigzag(n)
            for function in (differences, is_spread):
                check_own(self, function, (n, one), (n, other))
                check_own(self, function, (n, other), (n, one))
            check_own(self, zigzag, (n,), (n,))
            check_own(self, spread_orders, (n,), (n,))
            orders = list(spread_samples(n))
            if orders:
                check_own(self, spread_square, (n, orders[0]), (n, orders[-1]))

    def test_of_squares(self):
        draw = Random(146)
        for n in range(1, 10):
            one, other = drawn_square(draw, n), round_square(n)
            check_own(self, neighbourly, (one,), (other,))
            if n < 6:
                check_own(self, all_mates, (one,), (other,))
                check_own(self, all_mates, (other,), (one,))
        check_own(self, all_mates, (FOUR_ONCE,), (round_square(4),))

    def test_of_ways(self):
        for n in (1, 3, 5, 7):
            ways = plain_ways(round_square(n))
            check_own(self, shifted, (ways[0],), (ways[-1],))
