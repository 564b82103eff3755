import unittest
from random import Random

from squaremates.trees import tree_bars, way_or_tree
from tests.helpers import (
    FORTY, FOUR_ONCE, UNEVEN, WAYLESS_SIX, all_squares, changed_paper, check_own, copied, drawn_renaming,
    drawn_square, drawn_squares, plain_bars, plain_clash, plain_open, plain_renamed, plain_ways, round_paper,
    round_square,
)

SORTS = ("row", "column", "thing")
WRONG_SORTS = ["", "Row", "rows", "ROW", "r", "c", "t", " row", "row ", "cell", "sums", "Sum", "way", "row" * 30]
TWO = round_square(2)
FOUR = round_square(4)
SAMPLES = [
    *drawn_squares(35, range(1, 7), 3), *[round_square(n) for n in range(1, 7)], FOUR_ONCE, *UNEVEN.values(),
    *WAYLESS_SIX,
]


def part_of(square, cell, sort):
    r, c = cell
    return {"row": r, "column": c, "thing": square[r][c]}[sort]


def cases(square, chosen, sort, number):
    return [cell for cell in plain_open(square, chosen) if part_of(square, cell, sort) == number]


def free_numbers(square, chosen, sort):
    taken = [part_of(square, cell, sort) for cell in chosen]
    return [number for number in range(len(square)) if number not in taken]


def plain_tree_bars(square, chosen, tree):
    """By the document's words, for chosen cells that do not clash."""
    sort, told, branches = tree
    if sort == "sum" and type(told) is tuple:
        return branches == [] and plain_bars(square, chosen, told)
    if sort not in SORTS or type(told) is not int or told not in free_numbers(square, chosen, sort):
        return False
    if [cell for cell, below in branches] != cases(square, chosen, sort, told):
        return False
    return all(plain_tree_bars(square, [*chosen, cell], below) for cell, below in branches)


def has_way(square, cells):
    return any(all(way[r] == c for r, c in cells) for way in plain_ways(square))


def drawn_tree(draw, square, chosen, papers):
    """A case tree for chosen cells through which no way goes, with some of the papers where they bar."""
    for paper in draw.sample(papers, len(papers)):
        if draw.random() < 0.4 and plain_bars(square, chosen, paper):
            return "sum", copied(paper), []
    tries = [(sort, number) for sort in SORTS for number in free_numbers(square, chosen, sort)]
    # The fewest of three tries, that trees do not grow too great.
    some = [(len(cases(square, chosen, *one)), *one) for one in draw.choices(tries, k=3)]
    many, sort, number = min(some)
    return sort, number, [(cell, drawn_tree(draw, square, [*chosen, cell], papers))
                          for cell in cases(square, chosen, sort, number)]


def drawn_cells(draw, square, many):
    """Some cells that do not clash, as many as told where there are so many."""
    chosen = []
    while len(chosen) < many and plain_open(square, chosen):
        chosen.append(draw.choice(plain_open(square, chosen)))
    return chosen


def sub_trees(tree):
    return [tree, *[below for cell, branch in tree[2] for below in sub_trees(branch)]]


def with_node(tree, node, other):
    """The tree with another one in the place of that node."""
    if tree is node:
        return other
    sort, told, branches = tree
    return sort, told, [(cell, with_node(branch, node, other)) for cell, branch in branches]


def chain(deep, cell, sort="row", number=0):
    """A tree so deep, of one branch after the other."""
    tree = (sort, number, [])
    for time in range(deep - 1):
        tree = (sort, number, [(cell, tree)])
    return tree


def barred_cases(draw, sizes_too=SAMPLES):
    """Squares, told cells through which no way goes, case trees for them."""
    for square in sizes_too:
        n = len(square)
        round_one = changed_paper(round_paper(n, 5 * n, 5), {(0, 0): 1})
        papers = [round_paper(n, n, 1), round_one, (3, [0] * n, [0] * n, [1] * n)]
        for many in range(min(n, 4)):
            cells = drawn_cells(draw, square, many)
            if not has_way(square, cells):
                yield square, cells, drawn_tree(draw, square, cells, papers)


class ByHand(unittest.TestCase):
    def test_each_sort(self):
        self.assertIs(tree_bars(TWO, [], ("row", 0, [((0, 0), ("row", 1, [])), ((0, 1), ("row", 1, []))])), True)
        self.assertIs(tree_bars(TWO, [], ("column", 1, [((0, 1), ("column", 0, [])), ((1, 1), ("row", 0, []))])), True)
        self.assertIs(tree_bars(TWO, [], ("thing", 0, [((0, 0), ("thing", 1, [])), ((1, 1), ("column", 0, []))])), True)
        self.assertIs(tree_bars(TWO, [], ("sum", (2, [0, 1], [0, 1], [0, 1]), [])), True)
        self.assertIs(tree_bars(TWO, [(1, 0)], ("row", 0, [])), True)
        self.assertIs(tree_bars(TWO, [(1, 0)], ("thing", 0, [])), True)
        self.assertIs(tree_bars(TWO, [(1, 0), (1, 0), (1, 0)], ("column", 1, [])), True)
        self.assertIs(tree_bars(TWO, [(1, 0)], ("row", 1, [])), False)
        self.assertIs(tree_bars(TWO, [], ("row", 0, [])), False)
        self.assertIs(tree_bars(round_square(3), [(0, 0)], ("row", 1, [((1, 1), ("row", 2, []))])), False)

    def test_sum_behind_branches(self):
        paper = (4, [0, 1, 2, 3], [0, 1, 2, 3], [0, 1, 2, 3])
        for sort in SORTS:
            for number in range(4):
                branches = [(cell, ("sum", paper, [])) for cell in cases(FOUR, [], sort, number)]
                self.assertIs(tree_bars(FOUR, [], (sort, number, branches)), True)
        self.assertIs(tree_bars(FOUR, [(2, 2)], ("sum", paper, [])), True)
        self.assertIs(tree_bars(FOUR, [(2, 2), (3, 0)], ("sum", paper, [])), True)

    def test_one_thing_is_never_barred(self):
        for cells in ([], [(0, 0)], [(0, 0), (0, 0)]):
            for tree in (("row", 0, []), ("row", 0, [((0, 0), ("row", 0, []))]), ("column", -1, []),
                         ("thing", 0, [((0, 0), ("row", 1, []))]), ("sum", (2, [0], [0], [1]), []),
                         ("sum", (2, [0], [0], [0]), [])):
                self.assertIs(tree_bars([[0]], cells, tree), False)


class Bars(unittest.TestCase):
    def test_drawn_trees(self):
        draw = Random(36)
        seen = set()
        for time in range(3):
            for square, cells, tree in barred_cases(draw):
                self.assertIs(plain_tree_bars(square, cells, tree), True)
                self.assertIs(tree_bars(square, cells, tree), True)
                self.assertIs(tree_bars(square, cells[::-1], tree), True)
                self.assertIs(tree_bars(square, draw.choices(cells, k=9) + cells if cells else [], tree), True)
                sorts = {node[0] for node in sub_trees(tree)}
                seen |= {(len(square), min(len(cells), 2), sort) for sort in sorts}
        for many in (0, 1, 2):
            for sort in (*SORTS, "sum"):
                self.assertIn((6, many, sort), seen)

    def test_for_other_cells_by_the_words(self):
        draw = Random(37)
        told = []
        for square, cells, tree in barred_cases(draw):
            for many in range(4):
                others = drawn_cells(draw, square, many)
                told.append(tree_bars(square, others, tree))
                self.assertIs(told[-1], plain_tree_bars(square, others, tree))
        self.assertGreater(told.count(False), 30)

    def test_sums_with_the_chosen_cells_left_out(self):
        draw = Random(38)
        told = {True: 0, False: 0}
        unlike = 0
        for square in [TWO, FOUR, round_square(6), round_square(3), round_square(5)]:
            n = len(square)
            for time in range(60):
                places = draw.sample([(part, k) for part in range(3) for k in range(n)], draw.choice([0, 1, 2, 3]))
                step = draw.choice([1, 2, 5])
                paper = changed_paper(round_paper(n, n * step, step), {place: draw.randint(-9, 9) for place in places})
                cells = drawn_cells(draw, square, draw.choice([0, 1, 1, 2, 2, 3]))
                bars = tree_bars(square, cells, ("sum", paper, []))
                self.assertIs(bars, plain_bars(square, cells, paper), (square, cells, paper))
                told[bars] += 1
                unlike += bars != plain_bars(square, [], paper)
        self.assertGreater(min(told.values()), 50)
        self.assertGreater(unlike, 20)

    def test_at_most_twelve_open_cells(self):
        many = changed_paper(round_paper(6, 60, 10), {(2, thing): 1 for thing in range(4)})
        square = round_square(6)
        self.assertIs(tree_bars(square, [], ("sum", many, [])), False)
        self.assertIs(tree_bars(square, [(0, 0)], ("sum", many, [])), True)
        self.assertIs(tree_bars(square, [(0, 5)], ("sum", many, [])), False)


class Otherwise(unittest.TestCase):
    def refused(self, square, cells, tree, node, other):
        changed = with_node(tree, node, other)
        self.assertIs(tree_bars(square, cells, changed), False, (square, cells, changed))

    def nodes(self):
        """Squares, cells, trees, and each node of these with the cells that are chosen there."""
        for square, cells, tree in barred_cases(Random(39), [TWO, FOUR, *SAMPLES]):
            yield from self.nodes_below(square, cells, tree, tree, list(cells))

    def nodes_below(self, square, cells, tree, node, chosen):
        yield square, cells, tree, node, chosen
        for cell, below in node[2][:2]:
            yield from self.nodes_below(square, cells, tree, below, [*chosen, cell])

    def test_sort_that_is_none(self):
        for square, cells, tree, node, chosen in self.nodes():
            for sort in WRONG_SORTS:
                self.refused(square, cells, tree, node, (sort, *node[1:]))
                self.refused(square, cells, tree, node, (sort, 0, []))

    def test_number_that_is_none(self):
        for square, cells, tree, node, chosen in self.nodes():
            n = len(square)
            for sort in SORTS:
                taken = [part_of(square, cell, sort) for cell in chosen]
                for number in [*taken, -FORTY, -n, -2, -1, n, n + 1, FORTY]:
                    self.refused(square, cells, tree, node, (sort, number, []))
                    if node[0] in SORTS:
                        self.refused(square, cells, tree, node, (sort, number, node[2]))

    def test_number_and_paper_exchanged(self):
        for square, cells, tree, node, chosen in self.nodes():
            n = len(square)
            for number in (0, 1, n - 1, -1, FORTY):
                self.refused(square, cells, tree, node, ("sum", number, []))
                self.refused(square, cells, tree, node, ("sum", number, node[2]))
            for sort in SORTS:
                for paper in (round_paper(n, n, 1), (2, [], [], [])):
                    self.refused(square, cells, tree, node, (sort, paper, []))
                    self.refused(square, cells, tree, node, (sort, paper, node[2]))

    def test_branches(self):
        for square, cells, tree, node, chosen in self.nodes():
            sort, number, branches = node
            if sort == "sum":
                continue
            leaf = (sort, number, [])
            for at, (cell, below) in enumerate(branches):
                few = branches[:at] + branches[at + 1:]
                self.refused(square, cells, tree, node, (sort, number, few))
                self.refused(square, cells, tree, node, (sort, number, [*few, branches[at], branches[at]]))
                self.refused(square, cells, tree, node, (sort, number, branches[:at + 1] + branches[at:]))
                for r, c in [*chosen, (cell[0], cell[1] - len(square)), (-1, -1), (cell[1] + 9, 0), (FORTY, -FORTY)]:
                    other = [*branches[:at], ((r, c), below), *branches[at + 1:]]
                    self.refused(square, cells, tree, node, (sort, number, other))
                if at > 0:
                    moved = [*branches[:at - 1], branches[at], branches[at - 1], *branches[at + 1:]]
                    self.refused(square, cells, tree, node, (sort, number, moved))
            for r in range(len(square)):
                for c in range(len(square)):
                    if (r, c) not in [cell for cell, below in branches]:
                        more = sorted([*branches, ((r, c), leaf)], key=lambda branch: branch[0])
                        self.refused(square, cells, tree, node, (sort, number, more))
                        self.refused(square, cells, tree, node, (sort, number, [*branches, ((r, c), leaf)]))
            hundred = branches + [((0, 0), leaf)] * (100 - len(branches))
            self.refused(square, cells, tree, node, (sort, number, hundred))

    def test_leaf_where_cells_are_left(self):
        for square, cells, tree, node, chosen in self.nodes():
            for sort in SORTS:
                for number in free_numbers(square, chosen, sort):
                    if cases(square, chosen, sort, number):
                        self.refused(square, cells, tree, node, (sort, number, []))

    def test_papers_that_do_not_bar(self):
        for square, cells, tree, node, chosen in self.nodes():
            n = len(square)
            good = round_paper(n, n, 1)
            bad = [(2, [0] * n, [0] * n, [0] * n), (1, *good[1:]), (0, *good[1:]), (-n, *good[1:]), (2, [], [], []),
                   (*good[:3], [*good[3], 0]), (*good[:2], good[2][1:], good[3]), (FORTY, [], [0] * n, [0] * 100)]
            for paper in bad:
                self.refused(square, cells, tree, node, ("sum", paper, []))

    def test_list_behind_a_sum(self):
        some = 0
        for square, cells, tree, node, chosen in self.nodes():
            if node[0] == "sum":
                some += 1
                for cell in [*plain_open(square, chosen)[:3], *chosen, (0, 0), (-1, FORTY)]:
                    self.refused(square, cells, tree, node, (*node[:2], [(cell, node)]))
                    self.refused(square, cells, tree, node, (*node[:2], [(cell, ("row", 0, []))]))
        self.assertGreater(some, 10)

    def test_told_cells_that_clash(self):
        three = round_square(3)
        self.assertEqual([cell for cell in plain_open(three, [(0, 0), (0, 1)]) if cell[0] == 1], [])
        self.assertIs(tree_bars(three, [(0, 0), (0, 1)], ("row", 1, [])), False)
        for square in SAMPLES:
            n = len(square)
            for r in range(n) if n > 1 else []:
                like = ((r + 1) % n, square[(r + 1) % n].index(square[r][0]))
                for other in ((r, 1), ((r + 1) % n, 0), like):
                    cells = [(r, 0), other, (r, 0)]
                    for sort in SORTS:
                        for number in range(n):
                            branches = [(cell, ("row", 0, [])) for cell in cases(square, cells, sort, number)]
                            self.assertIs(tree_bars(square, cells, (sort, number, [])), False)
                            self.assertIs(tree_bars(square, cells, (sort, number, branches)), False)
                    self.assertIs(tree_bars(square, cells, ("sum", (n, [0] * n, [0] * n, [1] * n), [])), False)
        for square, cells, tree in barred_cases(Random(40)):
            for r in range(len(square)):
                for c in range(len(square)):
                    if (r, c) not in cells and plain_clash(square, [*cells, (r, c)]):
                        self.assertIs(tree_bars(square, [*cells, (r, c)], tree), False)

    def test_fifty_deep(self):
        for square in SAMPLES:
            n = len(square)
            for deep in (49, 50, 60):
                for sort in SORTS:
                    for tree in (chain(deep, (0, 0), sort), chain(deep, (n - 1, n - 1), sort, n - 1)):
                        self.assertIs(tree_bars(square, [], tree), False)
                        self.assertIs(tree_bars(square, [(0, n - 1)], tree), False)
        for square, cells, tree in barred_cases(Random(41), [TWO, FOUR, WAYLESS_SIX[0]]):
            for node in sub_trees(tree)[1:]:
                self.refused(square, cells, tree, node, chain(45, (0, 0)))
                for cell in plain_open(square, cells)[:2]:
                    self.refused(square, cells, tree, node, (*node[:2], [*node[2], (cell, chain(44, cell))]))

    def test_deep_trees_that_go_on_as_long_as_they_can(self):
        """Each branch is the right one, till all rows have a chosen cell: then any number is a wrong one."""
        for square in (FOUR_ONCE, round_square(3), round_square(5), [[0]]):
            tree = self.gone_on(square, [])
            self.assertIs(tree_bars(square, [], tree), False)
            self.assertIs(tree_bars(square, [(0, 0)], self.gone_on(square, [(0, 0)])), False)

    def gone_on(self, square, chosen):
        r = len(chosen)
        if r == len(square):
            return chain(50 - r, (0, 0))
        return "row", r, [(cell, self.gone_on(square, [*chosen, cell])) for cell in cases(square, chosen, "row", r)]


class WayOrTree(unittest.TestCase):
    def check(self, square, cells):
        told = way_or_tree(square, list(cells))
        self.assertIsInstance(told, tuple)
        word, shown = told
        through = [way for way in plain_ways(square) if all(way[r] == c for r, c in cells)]
        if through:
            self.assertEqual((word, shown), ("way", through[0]))
        else:
            self.assertEqual(word, "barred")
            self.assertIs(tree_bars(square, list(cells), shown), True)
            self.assertIs(plain_tree_bars(square, sorted(set(cells)), shown), True)
        return word

    def all_cells(self, square, chosen):
        """All lists of cells, rising, that do not clash and begin with the chosen ones."""
        more = [cell for cell in plain_open(square, chosen) if not chosen or cell > chosen[-1]]
        return [chosen, *[found for cell in more for found in self.all_cells(square, [*chosen, cell])]]

    def test_all_cells_of_one_to_four_things(self):
        squares = [square for n in (1, 2, 3) for square in all_squares(n)] + [FOUR, FOUR_ONCE]
        draw = Random(42)
        squares += [plain_renamed(square, drawn_renaming(draw, 4)) for square in (FOUR, FOUR_ONCE)]
        for square in squares:
            words = {self.check(square, cells) for cells in self.all_cells(square, [])}
            self.assertEqual("way" in words, plain_ways(square) != [])

    def test_no_cell_and_one(self):
        for square in SAMPLES:
            self.check(square, [])
            for r in range(len(square)):
                self.check(square, [(r, (r * r + 1) % len(square))])

    def test_some_cells(self):
        draw = Random(43)
        words = []
        for square in SAMPLES:
            for many in range(2, len(square) + 1):
                cells = drawn_cells(draw, square, many)
                words.append(self.check(square, cells))
                words.append(self.check(square, draw.choices(cells, k=8) + cells))
            for way in plain_ways(square)[:3]:
                words.append(self.check(square, draw.sample(list(enumerate(way)), draw.randint(1, len(way)))))
        self.assertGreater(min(words.count("way"), words.count("barred")), 30)


class Own(unittest.TestCase):
    def test_trees_looked_at(self):
        for square, cells, tree in barred_cases(Random(44)):
            other = plain_renamed(square, drawn_renaming(Random(45), len(square)))
            check_own(self, tree_bars, (square, cells, tree), (other, cells, tree))
            check_own(self, tree_bars, (square, cells, tree), (square, [], tree))
        good = round_paper(4, 4, 1)
        tree = ("row", 0, [(cell, ("sum", copied(good), [])) for cell in cases(FOUR, [], "row", 0)])
        worse = with_node(tree, tree[2][3][1], ("sum", (4, [0] * 4, [0] * 4, [0] * 4), []))
        check_own(self, tree_bars, (FOUR, [], tree), (FOUR, [], worse))
        check_own(self, tree_bars, (FOUR, [], worse), (FOUR, [], tree))

    def test_told(self):
        draw = Random(46)
        for n in range(1, 7):
            one, other = drawn_square(draw, n), round_square(n)
            for square in (one, other):
                check_own(self, way_or_tree, (square, []), (one, drawn_cells(draw, one, 1)))
                check_own(self, way_or_tree, (square, drawn_cells(draw, square, 2)), (other, []))
        for square in WAYLESS_SIX:
            check_own(self, way_or_tree, (square, []), (square, [(1, 1)]))
