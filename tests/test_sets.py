import unittest
from itertools import combinations
from random import Random

from squaremates.makings import field_squares, made_set
from squaremates.sets import is_set, witness
from tests.helpers import (
    FIELDS, FOUR_ONCE, check_own, drawn_set, drawn_square, drawn_squares, plain_mates, round_square,
)


def plain_is_set(squares):
    return all(plain_mates(one, other) for one, other in combinations(squares, 2))


def plain_witness(squares):
    told = []
    for square in squares:
        told += [c for c in range(len(square)) if square[0][c] == square[1][0]]
    return told


class IsSet(unittest.TestCase):
    def test_by_hand(self):
        one, other = [[0, 1, 2], [1, 2, 0], [2, 0, 1]], [[0, 1, 2], [2, 0, 1], [1, 2, 0]]
        self.assertIs(is_set([one]), True)
        self.assertIs(is_set([one, other]), True)
        self.assertIs(is_set([one, one]), False)
        self.assertIs(is_set([one, other, one]), False)
        self.assertIs(is_set([round_square(2)]), True)
        self.assertIs(is_set([round_square(2), [[1, 0], [0, 1]]]), False)

    def test_one_square_or_more_of_two_things_or_more(self):
        for squares in ([], [[[0]]], [[[0]], [[0]]]):
            self.assertIs(is_set(squares), False)

    def test_one_square(self):
        for square in drawn_squares(68, range(2, 10), 3):
            self.assertIs(is_set([square]), True)

    def test_sets_of_one_to_all_but_one(self):
        draw = Random(69)
        for q in FIELDS:
            for many in range(1, q):
                self.assertIs(is_set(drawn_set(draw, q, many)), True)

    def test_made_sets(self):
        for n in range(2, 10):
            self.assertIs(is_set(made_set(n)), True)

    def test_one_too_many(self):
        draw = Random(70)
        for q in FIELDS:
            full = drawn_set(draw, q, q - 1)
            for square in [*full, drawn_square(draw, q), round_square(q)]:
                for place in range(q):
                    self.assertIs(is_set([*full[:place], square, *full[place:]]), False)
            self.assertIs(is_set([full[0]] * 100), False)

    def test_each_two_looked_at(self):
        """Only the squares at two places, whichever, are no mates."""
        draw = Random(71)
        for q in (4, 5, 7, 8, 9):
            some = drawn_set(draw, q, q - 2)
            for place, other in combinations(range(q - 1), 2):
                squares = [*some[:other], some[place], *some[other:]]
                self.assertIs(is_set(squares), False, (q, place, other))

    def test_drawn_squares(self):
        draw = Random(72)
        for n in range(2, 10):
            for many in (2, 3):
                squares = [drawn_square(draw, n) for time in range(many)]
                self.assertIs(is_set(squares), plain_is_set(squares))
        told = [is_set([FOUR_ONCE, square]) for square in field_squares(4)]
        self.assertEqual(told, [False, True, True])


class Witness(unittest.TestCase):
    def test_by_hand(self):
        self.assertEqual(witness([[[0, 1, 2], [1, 2, 0], [2, 0, 1]], [[0, 1, 2], [2, 0, 1], [1, 2, 0]]]), [1, 2])
        self.assertEqual(witness([[[1, 0, 2], [2, 1, 0], [0, 2, 1]]]), [2])
        self.assertEqual(witness([[[1, 0], [0, 1]]]), [1])

    def test_by_the_words(self):
        draw = Random(73)
        for n in range(2, 10):
            squares = [drawn_square(draw, n) for time in range(4)]
            told = witness(squares)
            self.assertEqual(told, plain_witness(squares))
            self.assertTrue(all(0 < column < n for column in told))

    def test_all_unlike_and_none_0_in_a_set(self):
        draw = Random(74)
        for q in FIELDS:
            for many in range(1, q):
                told = witness(drawn_set(draw, q, many))
                self.assertEqual(len(set(told)), many)
                self.assertNotIn(0, told)
            self.assertEqual(sorted(witness(drawn_set(draw, q, q - 1))), list(range(1, q)))


class Own(unittest.TestCase):
    def test_each_function(self):
        draw = Random(75)
        for q in FIELDS:
            for many in (1, q - 1):
                one, other = drawn_set(draw, q, many), drawn_set(draw, q, many)
                worse = [drawn_square(draw, q) for time in range(many)]
                for function in (is_set, witness):
                    check_own(self, function, (one,), (other,))
                    check_own(self, function, (one,), (worse,))
                    check_own(self, function, (worse,), (one,))
