import unittest
from itertools import combinations
from random import Random

from squaremates.mates import are_mates, mate_of, mate_or_tree, no_mate, parting_of, partings
from tests.helpers import (
    FIELDS, FORTY, FOUR_ONCE, UNEVEN, all_squares, check_own, drawn_order, drawn_renaming, drawn_set,
    drawn_square, drawn_squares, is_square, plain_is_way, plain_mates, plain_renamed, plain_ways, round_square,
)

# The square of five things, up to renamings and turnings, that has ways but no mate.
LONE_FIVE = [[0, 1, 2, 3, 4], [1, 0, 3, 4, 2], [2, 3, 4, 0, 1], [3, 4, 1, 2, 0], [4, 2, 0, 1, 3]]
SMALL = [
    *drawn_squares(47, range(1, 6), 6), *[round_square(n) for n in range(1, 6)], FOUR_ONCE, LONE_FIVE,
]


def cells_of(n):
    return [(r, c) for r in range(n) for c in range(n)]


def in_common(one, other):
    return any(c == column for c, column in zip(one, other))


def plain_partings(square):
    """All sets of n ways, no two of which have a cell in common."""
    return [some for some in combinations(plain_ways(square), len(square))
            if not any(in_common(one, other) for one, other in combinations(some, 2))]


def next_ways(square, chosen, cell):
    r, c = cell
    return [way for way in plain_ways(square) if way[r] == c and not any(in_common(way, other) for other in chosen)]


def cells_left(square, chosen):
    return [(r, c) for r, c in cells_of(len(square)) if all(way[r] != c for way in chosen)]


def plain_no_mate(square, chosen, tree):
    """By the document's words."""
    cell, branches = tree
    if cell not in cells_left(square, chosen):
        return False
    if [way for way, below in branches] != next_ways(square, chosen, cell):
        return False
    return all(plain_no_mate(square, [*chosen, way], below) for way, below in branches)


def drawn_tree(draw, square, chosen):
    """A mate tree for the chosen ways of a square without a mate."""
    cell = draw.choice(cells_left(square, chosen))
    return cell, [(list(way), drawn_tree(draw, square, [*chosen, way])) for way in next_ways(square, chosen, cell)]


def sub_trees(tree):
    return [tree, *[node for way, below in tree[1] for node in sub_trees(below)]]


def with_node(tree, node, other):
    if tree is node:
        return other
    cell, branches = tree
    return cell, [(way, with_node(below, node, other)) for way, below in branches]


def deep_of(tree):
    return 1 + max([deep_of(below) for way, below in tree[1]], default=0)


def chain(deep, cell, way):
    tree = (cell, [])
    for time in range(deep - 1):
        tree = (cell, [(list(way), tree)])
    return tree


class AreMates(unittest.TestCase):
    def test_by_hand(self):
        self.assertIs(are_mates([[0]], [[0]]), True)
        self.assertIs(are_mates([[0, 1], [1, 0]], [[0, 1], [1, 0]]), False)
        self.assertIs(are_mates([[0, 1], [1, 0]], [[1, 0], [0, 1]]), False)
        self.assertIs(are_mates([[0, 1, 2], [1, 2, 0], [2, 0, 1]], [[0, 1, 2], [2, 0, 1], [1, 2, 0]]), True)
        self.assertIs(are_mates([[0, 1, 2], [1, 2, 0], [2, 0, 1]], [[0, 1, 2], [1, 2, 0], [2, 0, 1]]), False)

    def test_all_pairs_of_one_to_three_things(self):
        for n in (1, 2, 3):
            squares = all_squares(n)
            for one in squares:
                for other in squares:
                    self.assertIs(are_mates(one, other), plain_mates(one, other))

    def test_all_others_of_four_things(self):
        told = [are_mates(FOUR_ONCE, other) for other in all_squares(4)]
        self.assertEqual(told, [plain_mates(FOUR_ONCE, other) for other in all_squares(4)])
        self.assertEqual(told.count(True), 48)

    def test_mates_of_all_fields(self):
        draw = Random(48)
        for q in FIELDS[1:]:
            for time in range(4):
                one, other = drawn_set(draw, q, 2)
                self.assertIs(are_mates(one, other), True)
                self.assertIs(are_mates(other, one), True)
                self.assertIs(are_mates(one, one), False)
                turned = plain_renamed(other, (drawn_order(draw, q), list(range(q)), list(range(q))))
                self.assertIs(are_mates(one, turned), plain_mates(one, turned))

    def test_two_rows_exchanged(self):
        draw = Random(49)
        for q in FIELDS[1:]:
            one, other = drawn_set(draw, q, 2)
            self.assertIs(are_mates(one, [other[1], other[0], *other[2:]]), False)
            self.assertIs(are_mates(one, [*other[:-2], other[-1], other[-2]]), False)

    def test_drawn_squares(self):
        for n in range(2, 10):
            for seed in range(5):
                one, other = drawn_squares(seed, [n], 2)
                self.assertIs(are_mates(one, other), plain_mates(one, other))


class Partings(unittest.TestCase):
    def pairs(self):
        draw = Random(50)
        yield [[0]], [[0]]
        for q in FIELDS[1:]:
            for time in range(4):
                yield drawn_set(draw, q, 2)

    def test_by_hand(self):
        one, other = [[0, 1, 2], [1, 2, 0], [2, 0, 1]], [[1, 0, 2], [2, 1, 0], [0, 2, 1]]
        self.assertEqual(parting_of(one, other), [[1, 2, 0], [0, 1, 2], [2, 0, 1]])
        self.assertEqual(mate_of([[1, 2, 0], [0, 1, 2], [2, 0, 1]]), other)
        self.assertEqual(mate_of([[0]]), [[0]])
        self.assertEqual(parting_of([[0]], [[0]]), [[0]])

    def test_parting_of_a_mate(self):
        for square, mate in self.pairs():
            n = len(square)
            told = parting_of(square, mate)
            self.assertEqual(len(told), n)
            for k, way in enumerate(told):
                self.assertTrue(plain_is_way(square, way))
                self.assertEqual([(r, c) for r, c in cells_of(n) if mate[r][c] == k], list(enumerate(way)))
            self.assertEqual(sorted(cell for way in told for cell in enumerate(way)), cells_of(n))
            self.assertEqual(mate_of(told), mate)

    def test_mate_of_a_parting(self):
        draw = Random(51)
        for square in SMALL:
            for found in plain_partings(square)[:5]:
                parting = draw.sample([list(way) for way in found], len(found))
                mate = mate_of(parting)
                self.assertTrue(is_square(mate))
                self.assertTrue(plain_mates(square, mate))
                for k, way in enumerate(parting):
                    self.assertTrue(all(mate[r][c] == k for r, c in enumerate(way)))
                self.assertEqual(parting_of(square, mate), parting)


class NoMate(unittest.TestCase):
    def lone_squares(self):
        draw = Random(52)
        for square in (round_square(2), round_square(4), LONE_FIVE):
            yield square
            for time in range(3):
                yield plain_renamed(square, drawn_renaming(draw, len(square)))

    def trees(self, seed=53):
        draw = Random(seed)
        for square in self.lone_squares():
            for time in range(4):
                yield square, drawn_tree(draw, square, [])

    def test_by_hand(self):
        self.assertEqual(plain_ways(LONE_FIVE), [[2, 0, 3, 1, 4], [3, 0, 2, 4, 1], [4, 0, 1, 3, 2]])
        self.assertIs(no_mate(round_square(2), ((0, 0), [])), True)
        self.assertIs(no_mate(round_square(2), ((1, 0), [])), True)
        self.assertIs(no_mate(round_square(4), ((3, 1), [])), True)
        self.assertIs(no_mate(LONE_FIVE, ((0, 1), [])), True)
        self.assertIs(no_mate(LONE_FIVE, ((0, 2), [([2, 0, 3, 1, 4], ((4, 2), []))])), True)
        self.assertIs(no_mate(LONE_FIVE, ((0, 2), [([2, 0, 3, 1, 4], ((4, 4), []))])), False)
        self.assertIs(no_mate(LONE_FIVE, ((0, 2), [])), False)
        self.assertIs(no_mate([[0]], ((0, 0), [])), False)
        self.assertIs(no_mate([[0]], ((0, 0), [([0], ((0, 0), []))])), False)

    def test_drawn_trees(self):
        deeps = set()
        for seed in range(54, 60):
            for square, tree in self.trees(seed):
                self.assertIs(plain_no_mate(square, [], tree), True)
                self.assertIs(no_mate(square, tree), True)
                self.assertEqual(plain_partings(square), [])
                deeps.add(deep_of(tree))
        self.assertTrue({1, 2} <= deeps)

    def nodes(self):
        """Squares, trees, and each node with the ways that are chosen there."""
        for square, tree in self.trees():
            yield from self.nodes_below(square, tree, tree, [])

    def nodes_below(self, square, tree, node, chosen):
        yield square, tree, node, chosen
        for way, below in node[1]:
            yield from self.nodes_below(square, tree, below, [*chosen, way])

    def refused(self, square, tree, node, other):
        changed = with_node(tree, node, other)
        self.assertIs(no_mate(square, changed), False, (square, changed))

    def test_cells(self):
        for square, tree, node, chosen in self.nodes():
            n = len(square)
            r, c = node[0]
            beyond = [(r, n), (n, c), (-1, c), (r, -1), (r - n, c), (r, c - n), (FORTY, c), (r, -FORTY), (r + n, c + n)]
            for cell in [*beyond, *[(row, column) for way in chosen for row, column in enumerate(way)]]:
                self.refused(square, tree, node, (cell, node[1]))
                self.refused(square, tree, node, (cell, []))

    def test_other_cells_by_the_words(self):
        told = []
        for square, tree, node, chosen in self.nodes():
            for cell in cells_of(len(square)):
                for changed in (with_node(tree, node, (cell, node[1])), with_node(tree, node, (cell, []))):
                    told.append(no_mate(square, changed))
                    self.assertIs(told[-1], plain_no_mate(square, [], changed))
        self.assertGreater(min(told.count(True), told.count(False)), 20)

    def test_branches(self):
        some = 0
        for square, tree, node, chosen in self.nodes():
            cell, branches = node
            leaf = (cell, [])
            wrong = [[], [0], list(range(len(square) + 1)), [0] * len(square), [-1] * len(square), [FORTY] * 100]
            straight = [cell[1]] * len(square)
            for way in [*wrong, straight, *plain_ways(square)]:
                if way not in [known for known, below in branches]:
                    self.refused(square, tree, node, (cell, [*branches, (way, leaf)]))
                    self.refused(square, tree, node, (cell, [(way, leaf), *branches]))
            for at, (way, below) in enumerate(branches):
                some += 1
                few = branches[:at] + branches[at + 1:]
                self.refused(square, tree, node, (cell, few))
                self.refused(square, tree, node, (cell, branches[:at + 1] + branches[at:]))
                for other in ([*way, 0], way[:-1], [c - len(way) for c in way], way[::-1], *wrong):
                    if other != way:
                        self.refused(square, tree, node, (cell, [*branches[:at], (other, below), *branches[at + 1:]]))
                if at > 0:
                    moved = [*branches[:at - 1], branches[at], branches[at - 1], *branches[at + 1:]]
                    self.refused(square, tree, node, (cell, moved))
        self.assertGreater(some, 10)

    def test_several_branches(self):
        """A cell with more than one way, these in order and not."""
        found = 0
        for square in self.lone_squares():
            for cell in cells_of(len(square)):
                known = next_ways(square, [], cell)
                if len(known) > 1:
                    found += 1
                    trees = [(way, drawn_tree(Random(61), square, [way])) for way in known]
                    self.assertIs(no_mate(square, (cell, trees)), True)
                    self.assertIs(no_mate(square, (cell, trees[::-1])), False)
                    self.assertIs(no_mate(square, (cell, trees[1:])), False)
                    self.assertIs(no_mate(square, (cell, trees[:-1])), False)
        self.assertGreater(found, 0)

    def test_deeper_trees(self):
        """Of squares to five things none has trees of more than two levels, so a square of six is taken."""
        square = UNEVEN["crt"]
        draw = Random(60)
        self.assertGreater(len(plain_ways(square)), 5)
        for time in range(3):
            tree = drawn_tree(draw, square, [])
            while deep_of(tree) < 3:
                tree = drawn_tree(draw, square, [])
            self.assertIs(no_mate(square, tree), True)
            for node in sub_trees(tree):
                changed = with_node(tree, node, (node[0], node[1][1:]))
                self.assertIs(no_mate(square, changed), plain_no_mate(square, [], changed))

    def gone_on(self, square, chosen, deep):
        """A tree with all ways, as long as there are cells; then one of one branch so deep."""
        if len(chosen) == len(square):
            return chain(deep, (0, 0), chosen[0])
        cell = (0, len(chosen))
        return cell, [(way, self.gone_on(square, [*chosen, way], deep)) for way in next_ways(square, chosen, cell)]

    def test_squares_with_a_mate(self):
        for square in ([[0]], round_square(3), FOUR_ONCE, round_square(5)):
            self.assertNotEqual(plain_partings(square), [])
            for deep in (1, 2, 45, 60):
                self.assertIs(no_mate(square, self.gone_on(square, [], deep)), False)
            for cell in cells_of(len(square)):
                self.assertIs(no_mate(square, (cell, [])), False)

    def test_fifty_deep(self):
        for square in SMALL:
            n = len(square)
            for way in [*plain_ways(square)[:2], list(range(n)), [0] * n]:
                for deep in (49, 50, 60):
                    self.assertIs(no_mate(square, chain(deep, (0, way[0]), way)), False)
        for square, tree, node, chosen in self.nodes():
            self.refused(square, tree, node, (node[0], [*node[1], (list(range(len(square))), chain(45, (0, 0), [0]))]))


class MateOrTree(unittest.TestCase):
    def check(self, square):
        told = mate_or_tree(square)
        self.assertIsInstance(told, tuple)
        word, shown = told
        has_mate = plain_partings(square) != []
        if has_mate:
            self.assertEqual(word, "mate")
            self.assertTrue(is_square(shown))
            self.assertTrue(plain_mates(square, shown))
            self.assertEqual(shown[0], list(range(len(square))))
        else:
            self.assertEqual(word, "none")
            self.assertIs(no_mate(square, shown), True)
            self.assertIs(plain_no_mate(square, [], shown), True)
        return word

    def test_by_hand(self):
        self.assertEqual(mate_or_tree([[0]]), ("mate", [[0]]))
        self.assertEqual(mate_or_tree(round_square(3)), ("mate", [[0, 1, 2], [2, 0, 1], [1, 2, 0]]))
        self.assertEqual(mate_or_tree(round_square(2))[0], "none")
        self.assertEqual(mate_or_tree(round_square(4))[0], "none")
        self.assertEqual(mate_or_tree(FOUR_ONCE)[0], "mate")
        self.assertEqual(mate_or_tree(round_square(5))[0], "mate")
        self.assertEqual(mate_or_tree(LONE_FIVE)[0], "none")

    def test_small_squares(self):
        for square in [*[square for n in (1, 2, 3) for square in all_squares(n)], *all_squares(4)[::7]]:
            self.check(square)

    def test_five_things(self):
        draw = Random(62)
        words = [self.check(square) for square in drawn_squares(63, [5], 40)]
        words += [self.check(plain_renamed(square, drawn_renaming(draw, 5)))
                  for square in (round_square(5), LONE_FIVE) for time in range(8)]
        self.assertGreater(min(words.count("mate"), words.count("none")), 7)


class HowMany(unittest.TestCase):
    def test_by_hand(self):
        self.assertEqual(partings([[0]]), 1)
        self.assertEqual([partings(round_square(n)) for n in (2, 3, 4, 5)], [0, 1, 0, 3])
        self.assertEqual(partings(FOUR_ONCE), 2)
        self.assertEqual(partings(LONE_FIVE), 0)

    def test_plain_going_through(self):
        draw = Random(64)
        squares = [square for n in (1, 2, 3) for square in all_squares(n)]
        squares += [*all_squares(4)[::11], *SMALL]
        squares += [plain_renamed(square, drawn_renaming(draw, len(square))) for square in SMALL]
        for square in squares:
            self.assertEqual(partings(square), len(plain_partings(square)))


class Own(unittest.TestCase):
    def test_of_mates(self):
        draw = Random(65)
        for q in FIELDS[1:]:
            first, second = drawn_set(draw, q, 2), drawn_set(draw, q, 2)
            check_own(self, are_mates, tuple(first), tuple(second))
            check_own(self, are_mates, tuple(first), (first[0], second[1]))
            check_own(self, parting_of, tuple(first), tuple(second))
            check_own(self, mate_of, (parting_of(*first),), (parting_of(*second),))
        check_own(self, parting_of, ([[0]], [[0]]), ([[0]], [[0]]))
        check_own(self, mate_of, ([[0]],), ([[0]],))

    def test_of_squares(self):
        draw = Random(66)
        for n in range(1, 6):
            one, other = drawn_square(draw, n), round_square(n)
            for function in (mate_or_tree, partings):
                check_own(self, function, (one,), (other,))
                check_own(self, function, (other,), (one,))
        for function in (mate_or_tree, partings):
            check_own(self, function, (LONE_FIVE,), (round_square(5),))
            check_own(self, function, (FOUR_ONCE,), (round_square(4),))

    def test_one_way_at_many_places_of_a_tree(self):
        """Such trees come of squares of six things, one beyond the bound."""
        square, = drawn_squares(6, [6], 1)
        word, tree = mate_or_tree(square)
        ways = [way for node in sub_trees(tree) for way, below in node[1]]
        self.assertGreater(len(ways), len({tuple(way) for way in ways}))
        check_own(self, mate_or_tree, (square,), (round_square(6),))

    def test_of_trees(self):
        draw = Random(67)
        tree = ((0, 2), [([2, 0, 3, 1, 4], ((4, 2), []))])
        worse = ((0, 2), [([2, 0, 3, 4, 1], ((4, 2), []))])
        check_own(self, no_mate, (LONE_FIVE, tree), (LONE_FIVE, worse))
        check_own(self, no_mate, (LONE_FIVE, worse), (LONE_FIVE, tree))
        check_own(self, no_mate, (LONE_FIVE, tree), (round_square(5), tree))
        for time in range(5):
            drawn = drawn_tree(draw, LONE_FIVE, [])
            check_own(self, no_mate, (LONE_FIVE, drawn), (round_square(5), drawn))
