import unittest
from itertools import product
from random import Random

from squaremates.sumpapers import plain_sum, sum_bars
from tests.helpers import (
    FORTY, FOUR_ONCE, WAYLESS_SIX, all_squares, changed_paper, check_own, drawn_order, drawn_renaming,
    drawn_square, drawn_squares, plain_aim, plain_bars, plain_renamed, plain_rests, plain_ways, round_paper,
    round_square,
)

WAYLESS = [round_square(2), round_square(4), round_square(6)]


class Bars(unittest.TestCase):
    def check(self, square, paper, wanted):
        self.assertIs(sum_bars(square, paper), wanted, (square, paper))
        self.assertIs(plain_bars(square, [], paper), wanted, (square, paper))

    def test_by_hand(self):
        self.check(round_square(2), (2, [0, 1], [0, 1], [0, 1]), True)
        self.check(round_square(4), (4, [0, 1, 2, 3], [0, 1, 2, 3], [0, 1, 2, 3]), True)
        self.check(round_square(4), (2, [0, 1, 0, 1], [0, 1, 0, 1], [0, 1, 0, 1]), False)
        self.check(round_square(3), (3, [0, 1, 2], [0, 1, 2], [0, 1, 2]), False)
        self.check([[0]], (2, [0], [0], [1]), False)
        self.check([[0]], (2, [0], [0], [0]), False)
        self.check(round_square(2), (3, [0, 0], [0, 0], [1, 1]), True)
        self.check(round_square(2), (2, [0, 0], [0, 0], [1, 1]), False)
        self.check(round_square(2), (3, [0, 0], [0, 0], [1, 2]), False)

    def test_choice_of_no_cell(self):
        self.check(round_square(4), (4, [0] * 4, [0] * 4, [0] * 4), False)
        self.check(round_square(4), (9, [0] * 4, [0] * 4, [3, 3, 3, 0]), False)

    def test_choice_of_several_cells(self):
        square = round_square(4)
        paper = changed_paper(round_paper(4, 40, 10), {(2, 0): 10, (2, 1): 10})
        self.assertEqual((plain_aim([], paper), set(plain_rests(square, [], paper).values())), (0, {10}))
        self.check(square, paper, False)
        paper = changed_paper(round_paper(4, 40, 10), {(2, 0): -10, (2, 1): -10})
        self.check(square, paper, False)
        paper = changed_paper(round_paper(4, 40, 10), {(2, 0): 4, (2, 1): 4})
        self.check(square, paper, True)

    def test_cells_of_a_choice_do_not_touch(self):
        # Three times the rest would come to the aim, but its cells are in one row, one column, or have one thing.
        for part in range(3):
            for place in range(4):
                paper = changed_paper(round_paper(4, 20, 5), {(part, place): 5 if part == 2 else -5})
                self.assertEqual(list(plain_rests(round_square(4), [], paper).values()), [5] * 4)
                self.assertEqual(plain_aim([], paper), 15)
                self.check(round_square(4), paper, True)
        self.check(round_square(2), (FORTY, [0, 0], [0, 0], [1, 3]), True)
        self.check(round_square(2), (FORTY, [-1, -3], [0, 0], [0, 0]), True)
        self.check(round_square(2), (FORTY, [0, 0], [-1, -3], [0, 0]), True)

    def test_at_most_twelve_cells(self):
        four, six = round_paper(4, 40, 10), round_paper(6, 60, 10)
        twelve = changed_paper(four, {(2, 0): 1, (2, 1): 1, (2, 2): 1})
        thirteen = changed_paper(twelve, {(0, 0): -1})
        self.assertEqual(len(plain_rests(round_square(4), [], twelve)), 12)
        self.assertEqual(len(plain_rests(round_square(4), [], thirteen)), 13)
        self.check(round_square(4), twelve, True)
        self.check(round_square(4), thirteen, False)
        self.check(round_square(4), changed_paper(twelve, {(2, 3): 1}), False)
        for part in range(3):
            twelve = changed_paper(six, {(part, 1): 1, (part, 4): 2})
            self.assertEqual(len(plain_rests(round_square(6), [], twelve)), 12)
            self.check(round_square(6), twelve, True)
            self.check(round_square(6), changed_paper(twelve, {(part, 2): 1}), False)
            self.check(round_square(6), changed_paper(twelve, {(part, k): 1 for k in range(6)}), False)

    def test_m_of_two_and_of_forty_figures(self):
        self.check(round_square(6), round_paper(6, 2, 1), True)
        even = FORTY - 3
        self.assertEqual((even % 6, len(str(even))), (0, 40))
        self.check(round_square(6), round_paper(6, even, even // 6), True)
        self.check(round_square(6), changed_paper(round_paper(6, even, even // 6), {(1, 3): 7, (2, 2): -9}), True)
        self.check(round_square(6), round_paper(6, FORTY, 1), False)
        for m in (10 ** 39, FORTY, 3, 17):
            self.check(round_square(2), (m, [0, 0], [0, 0], [1, 1]), True)
            self.check(round_square(2), (m, [0, 0], [0, 0], [1, m - 1]), False)

    def test_m_below_two(self):
        for square in [*WAYLESS, round_square(3), [[0]]]:
            n = len(square)
            for m in (1, 0, -1, -2, -n, -FORTY):
                for step in (0, 1, 2):
                    self.check(square, round_paper(n, m, step), False)

    def test_lists_too_short_or_too_long(self):
        for square in WAYLESS:
            n = len(square)
            good = round_paper(n, n, 1)
            self.check(square, good, True)
            for part in (1, 2, 3):
                for bad in ([], good[part][:-1], [*good[part], 0], [*good[part], n], [0] * 100):
                    self.check(square, (*good[:part], bad, *good[part + 1:]), False)
            self.check(square, (n, [], [], []), False)
            self.check(square, (n, *[[*numbers, 0] for numbers in good[1:]]), False)
        self.check([[0]], (2, [], [], []), False)

    def test_numbers_with_the_same_rests(self):
        draw = Random(24)
        for square in WAYLESS:
            n = len(square)
            for paper in (round_paper(n, n, 1), round_paper(n, 10 * n, 10), round_paper(n, 2 * n, 1)):
                m = paper[0]
                for time in range(10):
                    other = changed_paper(paper, {(part, k): m * draw.randint(-10 ** 38, 10 ** 38)
                                            for part in range(3) for k in range(n)})
                    self.check(square, other, plain_bars(square, [], paper))
                    moved = changed_paper(other, {(2, 0): 1, (0, 0): -draw.randint(0, 3)})
                    self.check(square, moved, plain_bars(square, [], moved))
        self.check(round_square(2), (3, [-FORTY, FORTY], [0, 0], [1, 1]), True)

    def drawn_paper(self, draw, n):
        """A paper with rests at few cells of the round square, or at any."""
        if draw.random() < 0.2:
            m = draw.choice([2, 3, 4, 5, n + 1])
            return m, *[[draw.randint(-1, m) for k in range(n)] for part in range(3)]
        step = draw.choice([1, 2, 5])
        places = [(part, k) for part in range(3) for k in range(n)]
        some = draw.sample(places, draw.choice([0, 1, 1, 2, 2, 3]))
        return changed_paper(round_paper(n, n * step, step), {place: draw.randint(-9, 9) for place in some})

    def test_drawn_papers_by_the_words(self):
        draw = Random(25)
        told = []
        for n in (2, 4, 6, 2, 4, 6, 2, 4, 6, 3, 5):
            for time in range(40):
                square, paper = round_square(n), self.drawn_paper(draw, n)
                renaming = drawn_renaming(draw, n)
                m, *lists = paper
                other = m, *[[numbers[order.index(k)] for k in range(n)] for numbers, order in zip(lists, renaming)]
                told.append(plain_bars(square, [], paper))
                self.check(square, paper, told[-1])
                self.check(plain_renamed(square, renaming), other, told[-1])
        self.assertGreater(told.count(True), 60)
        self.assertGreater(told.count(False), 60)

    def test_square_with_a_way_is_never_barred(self):
        draw = Random(26)
        few = 0
        for square in [*drawn_squares(27, [1, 3, 4, 5, 6], 12), FOUR_ONCE, round_square(3), round_square(5)]:
            if plain_ways(square):
                for time in range(15):
                    paper = self.drawn_paper(draw, len(square))
                    few += len(plain_rests(square, [], paper)) <= 12
                    self.assertIs(sum_bars(square, paper), False)
        self.assertGreater(few, 100)


class PlainSum(unittest.TestCase):
    def check(self, square, paper):
        """That it is plain and bars, by the test's own look."""
        self.assertIsInstance(paper, tuple)
        m, rows, columns, things = paper
        self.assertTrue(2 <= m <= len(square))
        self.assertEqual([len(numbers) for numbers in paper[1:]], [len(square)] * 3)
        self.assertTrue(all(isinstance(numbers, list) for numbers in paper[1:]))
        self.assertEqual(plain_rests(square, [], paper), {})
        self.assertNotEqual(plain_aim([], paper), 0)
        self.assertIs(sum_bars(square, paper), True)

    def has_plain(self, square, m):
        """All numbers for rows and things gone through; the columns' follow by the first row."""
        n = len(square)
        for rows in product(range(m), repeat=n):
            for things in product(range(m), repeat=n):
                columns = [(things[thing] - rows[0]) % m for thing in square[0]]
                if plain_aim([], (m, rows, columns, things)) != 0:
                    if not plain_rests(square, [], (m, rows, columns, things)):
                        return True
        return False

    def least_plain(self, square):
        return next((m for m in range(2, len(square) + 1) if self.has_plain(square, m)), None)

    def check_least(self, square, wanted):
        told = plain_sum(square)
        if wanted is None:
            self.assertIsNone(told)
        else:
            self.check(square, told)
            self.assertEqual(told[0], wanted)

    def test_all_squares_of_one_to_three_things(self):
        for n, wanted in ((1, None), (2, 2), (3, None)):
            for square in all_squares(n):
                self.assertEqual(self.least_plain(square), wanted)
                self.check_least(square, wanted)

    def test_four_things(self):
        self.assertEqual(self.least_plain(round_square(4)), 4)
        self.assertEqual(self.least_plain(FOUR_ONCE), None)
        draw = Random(28)
        for time in range(40):
            renaming = drawn_renaming(draw, 4)
            self.check_least(plain_renamed(round_square(4), renaming), 4)
            self.check_least(plain_renamed(FOUR_ONCE, renaming), None)
        # Each square without a way is alike to the round one, so these are all.
        for square in all_squares(4)[::5]:
            self.check_least(square, None if plain_ways(square) else 4)

    def test_five_things_have_ways(self):
        for square in [round_square(5), *drawn_squares(29, [5], 20)]:
            self.assertIsNone(plain_sum(square))

    def least_by_first_row(self, square):
        """All numbers for things gone through, the first row's being 0 and the others following."""
        n = len(square)
        for m in range(2, n + 1):
            for things in product(range(m), repeat=n):
                if all((things[square[r][c]] - things[square[r][0]] - things[square[0][c]]) % m == 0
                       for r in range(n) for c in range(n)):
                    rows, columns = [things[row[0]] for row in square], [things[thing] for thing in square[0]]
                    if plain_aim([], (m, rows, columns, things)) != 0:
                        return m
        return None

    def test_six_things(self):
        draw = Random(30)
        for square in [round_square(6), *WAYLESS_SIX, *drawn_squares(31, [5, 6], 2)]:
            least = self.least_by_first_row(square)
            for time in range(10):
                self.check_least(plain_renamed(square, drawn_renaming(draw, len(square))), least)

    def test_halves_of_six_things(self):
        """Squares made of four squares of three things, upper and lower ones: parted by 2."""
        draw = Random(32)
        for time in range(20):
            quarters = [drawn_square(draw, 3) for quarter in range(4)]
            square = [[quarters[2 * (r // 3) + c // 3][r % 3][c % 3] + 3 * ((r // 3 + c // 3) % 2) for c in range(6)]
                      for r in range(6)]
            self.assertEqual(plain_ways(square), [])
            self.check_least(plain_renamed(square, drawn_renaming(draw, 6)), 2)


class Own(unittest.TestCase):
    def test_papers(self):
        draw = Random(33)
        for n in range(1, 7):
            one, other = drawn_square(draw, n), plain_renamed(round_square(n), drawn_renaming(draw, n))
            papers = [(n + 1, drawn_order(draw, n), drawn_order(draw, n), drawn_order(draw, n)) for time in range(3)]
            good = round_paper(n, n + 1, 1)
            check_own(self, sum_bars, (one, papers[0]), (other, papers[1]))
            check_own(self, sum_bars, (round_square(n), good), (one, papers[2]))
            check_own(self, sum_bars, (one, (2, [], [], [0])), (one, (2, [0], [0] * n, [1] * n)))
            if n % 2 == 0:
                check_own(self, sum_bars, (round_square(n), round_paper(n, n, 1)), (one, round_paper(n, n, 2)))

    def test_plain_sums(self):
        draw = Random(34)
        for n in range(1, 7):
            one, other = drawn_square(draw, n), plain_renamed(round_square(n), drawn_renaming(draw, n))
            check_own(self, plain_sum, (one,), (other,))
            check_own(self, plain_sum, (other,), (one,))
            check_own(self, plain_sum, (round_square(n),), (other,))

    def test_one_list_handed_in_at_three_places(self):
        numbers = [0, 1, 2, 3]
        self.assertIs(sum_bars(round_square(4), (4, numbers, numbers, numbers)), True)
        self.assertEqual(numbers, [0, 1, 2, 3])
