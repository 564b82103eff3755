import unittest

from squaremates.errors import NoField
from squaremates.fields import plus, times
from tests.helpers import FIELDS, FORTY, check_own, check_refused

FOUR = [[0, 0, 0, 0], [0, 1, 2, 3], [0, 2, 3, 1], [0, 3, 1, 2]]
EIGHT = [
    [0, 0, 0, 0, 0, 0, 0, 0], [0, 1, 2, 3, 4, 5, 6, 7], [0, 2, 4, 6, 3, 1, 7, 5], [0, 3, 6, 5, 7, 4, 1, 2],
    [0, 4, 3, 7, 6, 2, 5, 1], [0, 5, 1, 4, 2, 7, 3, 6], [0, 6, 7, 1, 5, 3, 2, 4], [0, 7, 5, 2, 1, 6, 4, 3],
]
NINE = [
    [0, 0, 0, 0, 0, 0, 0, 0, 0], [0, 1, 2, 3, 4, 5, 6, 7, 8], [0, 2, 1, 6, 8, 7, 3, 5, 4],
    [0, 3, 6, 2, 5, 8, 1, 4, 7], [0, 4, 8, 5, 6, 1, 7, 2, 3], [0, 5, 7, 8, 1, 3, 4, 6, 2],
    [0, 6, 3, 1, 7, 4, 2, 8, 5], [0, 7, 5, 4, 2, 6, 8, 3, 1], [0, 8, 4, 7, 3, 2, 5, 1, 6],
]


def parts(q, number):
    """The numbers before the powers of x, from the lowest on, as the document's words set them."""
    base, many = {4: (2, 2), 8: (2, 3), 9: (3, 2)}.get(q, (q, 1))
    return [number // base ** k % base for k in range(many)]


def number(q, sums):
    base = {4: 2, 8: 2, 9: 3}.get(q, q)
    return sum(part % base * base ** k for k, part in enumerate(sums))


def plain_plus(q, a, b):
    return number(q, [one + other for one, other in zip(parts(q, a), parts(q, b))])


def by_x(q, sums):
    """The sum times x, with x x (for 8: x x x) put as the document says."""
    *low, top = [0, *sums]
    instead = {4: [1, 1], 8: [1, 1, 0], 9: [2, 0]}[q]
    return [part + top * put for part, put in zip(low, instead)]


def plain_times(q, a, b):
    if q in (2, 3, 5, 7):
        return a * b % q
    total = [0] * len(parts(q, a))
    moved = parts(q, a)
    for part in parts(q, b):
        total = [one + part * other for one, other in zip(total, moved)]
        moved = by_x(q, moved)
    return number(q, total)


class Tables(unittest.TestCase):
    def test_products_by_hand(self):
        for q, table in ((4, FOUR), (8, EIGHT), (9, NINE)):
            self.assertEqual([[times(q, a, b) for b in range(q)] for a in range(q)], table)

    def test_sums_by_hand(self):
        self.assertEqual([[plus(4, a, b) for b in range(4)] for a in range(4)],
                         [[0, 1, 2, 3], [1, 0, 3, 2], [2, 3, 0, 1], [3, 2, 1, 0]])
        self.assertEqual([plus(8, 5, b) for b in range(8)], [5, 4, 7, 6, 1, 0, 3, 2])
        self.assertEqual([plus(9, 5, b) for b in range(9)], [5, 3, 4, 8, 6, 7, 2, 0, 1])
        self.assertEqual([plus(7, 5, b) for b in range(7)], [5, 6, 0, 1, 2, 3, 4])

    def test_by_the_words(self):
        for q in FIELDS:
            for a in range(q):
                for b in range(q):
                    self.assertEqual(plus(q, a, b), plain_plus(q, a, b), (q, a, b))
                    self.assertEqual(times(q, a, b), plain_times(q, a, b), (q, a, b))
                    self.assertEqual({type(plus(q, a, b)), type(times(q, a, b))}, {int})


class Laws(unittest.TestCase):
    def test_order_and_grouping(self):
        for q in FIELDS:
            for act in (plus, times):
                for a in range(q):
                    for b in range(q):
                        self.assertIn(act(q, a, b), range(q))
                        self.assertEqual(act(q, a, b), act(q, b, a))
                        for c in range(q):
                            self.assertEqual(act(q, act(q, a, b), c), act(q, a, act(q, b, c)))

    def test_product_with_a_sum(self):
        for q in FIELDS:
            for a in range(q):
                for b in range(q):
                    for c in range(q):
                        self.assertEqual(times(q, a, plus(q, b, c)), plus(q, times(q, a, b), times(q, a, c)))

    def test_nothing_and_one(self):
        for q in FIELDS:
            for a in range(q):
                self.assertEqual(plus(q, a, 0), a)
                self.assertEqual(times(q, a, 1), a)
                self.assertEqual(times(q, a, 0), 0)
                self.assertEqual([plus(q, a, b) for b in range(q)].count(0), 1)
                self.assertEqual([times(q, a, b) for b in range(q)].count(1), 0 if a == 0 else 1)


class NoFields(unittest.TestCase):
    def test_every_other_number(self):
        others = [q for q in range(-30, 130) if q not in FIELDS]
        for q in [*others, FORTY, -FORTY, 10 ** 39, -10 ** 39]:
            for a, b in ((0, 0), (1, 1), (0, 1), (5, 3)):
                check_refused(self, NoField, plus, q, a, b)
                check_refused(self, NoField, times, q, a, b)


class Own(unittest.TestCase):
    def test_asked_again(self):
        for q in FIELDS:
            for a in range(q):
                check_own(self, plus, (q, a, q - 1), (q, a, q - 1))
                check_own(self, times, (q, a, q - 1), (q, a, q - 1))
