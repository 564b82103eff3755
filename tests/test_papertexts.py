import re
import unittest
from random import Random

from squaremates.errors import NoText
from squaremates.papertexts import (
    read_mate_tree, read_square, read_sum, read_tree, read_way, show_mate_tree, show_square, show_sum, show_tree,
    show_way,
)
from squaremates.mates import no_mate
from squaremates.sumpapers import plain_sum, sum_bars
from squaremates.trees import tree_bars, way_or_tree
from tests.helpers import (
    FORTY, all_orders, all_squares, check_own, check_refused, drawn_order, drawn_square, drawn_squares, is_square,
    lists_in, round_square, spoil,
)

ROUND_PAPER = (4, [0, 1, 2, 3], [0, 1, 2, 3], [0, 1, 2, 3])
ROUND_TEXT = "mod 4; rows 0 1 2 3; columns 0 1 2 3; things 0 1 2 3"
NUMBER = r"(?:0|-?[1-9][0-9]{0,39})"
NUMBERS = rf"{NUMBER}(?: {NUMBER}){{0,8}}"
SUM = rf"mod {NUMBER}; rows {NUMBERS}; columns {NUMBERS}; things {NUMBERS}"
BRANCH = r"{}: <[0-9]+>"
SIGNS = "0189-+ ;:,[]()rowx~"
PAIRS = ((show_square, read_square), (show_way, read_way), (show_sum, read_sum), (show_tree, read_tree),
         (show_mate_tree, read_mate_tree))


def is_square_text(text):
    if not re.fullmatch("[0-9]+( [0-9]+)*", text):
        return False
    square = [[int(sign) for sign in row] for row in text.split(" ")]
    return len(square) <= 9 and is_square(square)


def is_way_text(text):
    return 1 <= len(text) <= 9 and sorted(text) == [str(k) for k in range(len(text))]


def is_sum_text(text):
    return re.fullmatch(SUM, text) is not None


def put_together(text, head, cell):
    """The innermost trees of a text, again and again, each written as how deep it is in < >."""
    branch = BRANCH.format(cell)
    whole = rf"{head} \[((?:{branch}(?:; {branch})*)?)\]"

    def deep_of(match):
        deeps = [int(deep) for deep in re.findall("<([0-9]+)>", match.group(1))]
        return f"<{max(deeps, default=0) + 1}>"

    shorter = re.sub(whole, deep_of, text)
    while shorter != text:
        text, shorter = shorter, re.sub(whole, deep_of, shorter)
    return re.fullmatch("<([1-9]|[1-4][0-9]|50)>", text) is not None


def is_tree_text(text):
    if "<" in text or ">" in text:
        return False
    return put_together(re.sub(rf"sum \({SUM}\)", "<1>", text), "(?:row|column|thing) [0-8]", "[0-8][0-8]")


def is_mate_tree_text(text):
    if "<" in text or ">" in text or not all(is_way_text(way) for way in re.findall(r"([^ \[]*): ", text)):
        return False
    return put_together(text, "[0-8][0-8]", "[0-8]+")


TELLERS = {read_square: is_square_text, read_way: is_way_text, read_sum: is_sum_text, read_tree: is_tree_text,
           read_mate_tree: is_mate_tree_text}


def drawn_number(draw):
    most = draw.choice((3, 12, 1000, FORTY))
    return draw.randint(-most, most)


def drawn_paper(draw):
    return drawn_number(draw), *[[drawn_number(draw) for k in range(draw.randint(1, 9))] for part in range(3)]


def drawn_cell(draw):
    return draw.randrange(9), draw.randrange(9)


def drawn_case_tree(draw, deep):
    if draw.random() < 0.2:
        return "sum", drawn_paper(draw), []
    many = draw.choice((0, 1, 1, 2, 3)) if deep > 1 else 0
    branches = [(drawn_cell(draw), drawn_case_tree(draw, deep - 1)) for k in range(many)]
    return draw.choice(("row", "column", "thing")), draw.randrange(9), branches


def drawn_mate_tree(draw, deep):
    many = draw.choice((0, 1, 1, 2, 3)) if deep > 1 else 0
    ways = [drawn_order(draw, draw.randint(1, 9)) for k in range(many)]
    return drawn_cell(draw), [(way, drawn_mate_tree(draw, deep - 1)) for way in ways]


def case_chain(deep, leaf):
    tree = leaf
    for k in range(deep - 1):
        tree = ("row", k % 9, [((k % 9, 8), tree)])
    return tree


def mate_chain(deep):
    tree = ((8, 0), [])
    for k in range(deep - 1):
        tree = ((k % 9, 0), [([1, 0], tree)])
    return tree


def changed_texts(text, draw, many):
    """The text with a sign left out, put in, written otherwise, two exchanged, or a piece written twice."""
    for time in range(many):
        at = draw.randrange(len(text) + 1)
        other = min(len(text), at + draw.randrange(8))
        sign = draw.choice(SIGNS)
        yield text[:at] + text[at + 1:]
        yield text[:at] + sign + text[at:]
        yield text[:at] + sign + text[at + 1:]
        yield text[:at] + text[at + 1:at + 2] + text[at:at + 1] + text[at + 2:]
        yield text[:other] + text[at:]
        yield text[:at] + text[other:]


class Show(unittest.TestCase):
    def test_by_the_document(self):
        self.assertEqual(show_square([[0, 1, 2], [1, 2, 0], [2, 0, 1]]), "012 120 201")
        self.assertEqual(show_square([[0]]), "0")
        self.assertEqual(show_way([2, 0, 1]), "201")
        self.assertEqual(show_sum(ROUND_PAPER), ROUND_TEXT)
        tree = ("row", 0, [((0, 0), ("thing", 2, [])), ((0, 1), ("column", 0, []))])
        self.assertEqual(show_tree(tree), "row 0 [00: thing 2 []; 01: column 0 []]")
        self.assertEqual(show_mate_tree(((0, 0), [([0, 1, 2], ((1, 1), []))])), "00 [012: 11 []]")

    def test_numbers(self):
        self.assertEqual(show_sum((-1, [0], [-12, 5], [FORTY, -FORTY])),
                         f"mod -1; rows 0; columns -12 5; things {'9' * 40} -{'9' * 40}")
        self.assertEqual(show_sum((0, [1] * 9, [10], [0])), "mod 0; rows 1 1 1 1 1 1 1 1 1; columns 10; things 0")

    def test_trees(self):
        self.assertEqual(show_tree(("thing", 8, [])), "thing 8 []")
        self.assertEqual(show_tree(("sum", ROUND_PAPER, [])), f"sum ({ROUND_TEXT})")
        tree = ("column", 3, [((8, 7), ("sum", (2, [0], [1], [-1]), [])), ((0, 0), ("row", 1, []))])
        self.assertEqual(show_tree(tree),
                         "column 3 [87: sum (mod 2; rows 0; columns 1; things -1); 00: row 1 []]")
        self.assertEqual(show_mate_tree(((8, 1), [])), "81 []")
        self.assertEqual(show_mate_tree(((0, 1), [([0], ((1, 2), [])), ([1, 0], ((3, 4), [([0], ((5, 6), []))]))])),
                         "01 [0: 12 []; 10: 34 [0: 56 []]]")

    def test_fifty_deep(self):
        text = show_tree(case_chain(50, ("thing", 2, [])))
        self.assertEqual((text.count("["), text.count("]"), text.count("row")), (50, 50, 49))
        self.assertTrue(text.startswith("row 3 [38: row 2 [28: row 1 [18: "))
        self.assertTrue(text.endswith("row 0 [08: thing 2 []" + "]" * 49))
        text = show_mate_tree(mate_chain(50))
        self.assertEqual((text.count("[10: "), text.count("[]")), (49, 1))


class ThereAndBack(unittest.TestCase):
    def same(self, show, read, value):
        text = show(value)
        self.assertTrue(TELLERS[read](text), text)
        self.assertEqual(read(text), value)

    def test_squares(self):
        for square in [*all_squares(3), *all_squares(4)[::20], *drawn_squares(150, range(1, 10), 10)]:
            self.same(show_square, read_square, square)

    def test_ways(self):
        draw = Random(151)
        for way in [*[order for n in range(1, 6) for order in all_orders(n)],
                    *[drawn_order(draw, n) for n in range(6, 10) for time in range(10)]]:
            self.same(show_way, read_way, way)

    def test_sums(self):
        draw = Random(152)
        for paper in [ROUND_PAPER, *[drawn_paper(draw) for time in range(200)]]:
            self.same(show_sum, read_sum, paper)
        for m in (-FORTY, -1, 0, 1, 2, 10, FORTY):
            self.same(show_sum, read_sum, (m, [m], [m, 0], [0, m, -m]))

    def test_trees(self):
        draw = Random(153)
        for time in range(150):
            self.same(show_tree, read_tree, drawn_case_tree(draw, draw.randint(1, 9)))
            self.same(show_mate_tree, read_mate_tree, drawn_mate_tree(draw, draw.randint(1, 9)))

    def test_kinds_of_values(self):
        draw = Random(154)
        tree = read_tree(show_tree(("row", 1, [((2, 3), ("sum", drawn_paper(draw), []))])))
        self.assertEqual([type(part) for part in tree], [str, int, list])
        (cell, below), = tree[2]
        self.assertEqual((type(cell), type(below), type(below[1])), (tuple, tuple, tuple))
        self.assertEqual([type(part) for part in below[1]], [int, list, list, list])
        mate_tree = read_mate_tree("01 [10: 22 []]")
        self.assertEqual([type(part) for part in mate_tree], [tuple, list])
        self.assertEqual([type(part) for part in mate_tree[1][0]], [list, tuple])

    def test_fifty_deep(self):
        for leaf in (("thing", 8, []), ("sum", ROUND_PAPER, [])):
            for deep in (1, 2, 49, 50):
                self.same(show_tree, read_tree, case_chain(deep, leaf))
        for deep in (1, 2, 49, 50):
            self.same(show_mate_tree, read_mate_tree, mate_chain(deep))

    def test_long_texts(self):
        """What is written is read, of more signs than other texts have, too."""
        branches = [((k % 9, k // 9 % 9), case_chain(30, ("thing", k % 9, []))) for k in range(60)]
        self.assertGreater(len(show_tree(("row", 0, branches))), 10000)
        self.same(show_tree, read_tree, ("row", 0, branches))

    def test_papers_that_bar(self):
        square = round_square(4)
        paper = plain_sum(square)
        self.assertIs(sum_bars(square, read_sum(show_sum(paper))), True)
        word, tree = way_or_tree(square, [(0, 0)])
        self.assertIs(tree_bars(square, [(0, 0)], read_tree(show_tree(tree))), True)
        self.assertIs(no_mate(square, read_mate_tree("00 []")), True)


class Refused(unittest.TestCase):
    def refused(self, read, texts):
        for text in texts:
            self.assertFalse(TELLERS[read](text), text)
            check_refused(self, NoText, read, text)

    def test_no_signs(self):
        for show, read in PAIRS:
            self.refused(read, ["", " ", "  ", "~", "none", ";", "; ", ": ", "[", "]", "[]", "()", "-", "+"])

    def test_squares(self):
        self.refused(read_square, [
            " 0", "0 ", "01  10", " 01 10", "01 10 ", "0110", "01,10", "01 1", "01 100", "01", "01 10 01", "1",
            "01 01", "00 11", "02 20", "012 120 210", "012 012 012", "0 1", "01 1O", "-0", "+0", "00", "01 1-0",
            "0123456789 1234567890", "9" * 10000, "0 " * 5000, "01 10\n", "\n0", "0\t", "01_10",
            " ".join(["".join([str((r + c) % 10) for c in range(10)]) for r in range(10)]),
        ])

    def test_ways(self):
        self.refused(read_way, [
            "00", "1", "9", "02", "012345678 ", " 0", "0 1", "0,1", "0123456789", "1234567890", "12", "011", "-0",
            "+0", "0-1", "0" * 10000, "0123456788", "123456789", "a", "0a", "01\n", "1_0",
        ])

    def test_sums(self):
        wrong = ["01", "00", "-0", "+1", "-01", "--1", "- 1", "1-", "", "-", "1.0", "a", "1" + "0" * 40,
                 "-1" + "0" * 40, "0x1", "1_0", "0 ", " 0", "1,2", "1;", "1e5"]
        whole = ["5", "0", "-3"]
        heads = ("mod", "rows", "columns", "things")
        for place in range(4):
            for number in wrong:
                parts = [f"{head} {number if k == place else '7'}" for k, head in enumerate(heads)]
                self.refused(read_sum, ["; ".join(parts)])
                if place > 0:
                    for at in range(3):
                        listed = " ".join(whole[:at] + [number] + whole[at:])
                        lists = [*parts[:place], f"{parts[place].split(' ')[0]} {listed}", *parts[place + 1:]]
                        self.refused(read_sum, ["; ".join(lists)])

    def test_parts_of_sums(self):
        self.refused(read_sum, [
            "mod 4; rows 0 1 2 3; columns 0 1 2 3", ROUND_TEXT + "; ", ROUND_TEXT + ";", ROUND_TEXT + " ",
            " " + ROUND_TEXT, ROUND_TEXT + "; things 0", "rows 0; mod 4; columns 0; things 0",
            "mod 4; columns 0; rows 0; things 0", "mod 4; rows 0; columns 0; things",
            "mod 4; rows; columns 0; things 0", "mod; rows 0; columns 0; things 0",
            "mod ; rows 0; columns 0; things 0", "mod 4 5; rows 0; columns 0; things 0",
            "mod 4; rows ; columns 0; things 0", "mod 4;rows 0; columns 0; things 0",
            "mod 4;  rows 0; columns 0; things 0", "mod 4, rows 0; columns 0; things 0",
            "Mod 4; rows 0; columns 0; things 0", "mod 4; row 0; columns 0; things 0",
            "mod  4; rows 0; columns 0; things 0", "mod4; rows 0; columns 0; things 0",
            "mod 4; rows 0  1; columns 0; things 0", "(" + ROUND_TEXT + ")",
            "mod 4; rows 0 1 2 3 4 5 6 7 8 9; columns 0; things 0",
            "mod 4; rows 0; columns 0; things 1 1 1 1 1 1 1 1 1 1",
            "mod 4; rows 0; columns 1 1 1 1 1 1 1 1 1 1; things 0", "sum (" + ROUND_TEXT + ")", ROUND_TEXT + "\n",
            "mod 4; rows " + "1 " * 4000 + "; columns 0; things 0",
            "mod " + "1" * 9000 + "; rows 0; columns 0; things 0",
        ])

    def test_trees(self):
        self.refused(read_tree, [
            "row 0", "row 0 ", "row 0 [", "row 0 ]", "row 0 []]", "row 0 [[]]", "row 0 [ ]", "row 0[]", "row 0  []",
            "row  0 []", " row 0 []", "row 0 [] ", "row []", "row 9 []", "row 10 []", "row 00 []", "row -1 []",
            "row -0 []", "row +1 []", "Row 0 []", "rows 0 []", "cell 0 []", " 0 []", "0 []", "sum 0 []", "sum []",
            "row a []", "row 0 []; row 1 []", "row 0 [00]", "row 0 [00:]", "row 0 [00: ]", "row 0 [00:row 1 []]",
            "row 0 [00 : row 1 []]", "row 0 [0: row 1 []]", "row 0 [000: row 1 []]", "row 0 [09: row 1 []]",
            "row 0 [90: row 1 []]", "row 0 [0,0: row 1 []]", "row 0 [00: row 1 []", "row 0 [00: row 1 []; ]",
            "row 0 [; 00: row 1 []]", "row 0 [00: row 1 [];00: row 1 []]", "row 0 [00: row 1 []  ; 01: row 1 []]",
            "row 0 [00: row 1 []; ; 01: row 1 []]", "row 0 [00: row 1 [], 01: row 1 []]",
            "row 0 [00: row 1 [] 01: row 1 []]", "row 0 (00: row 1 [])", "row 0 {}", "00 []", "row 0 [-0: row 1 []]",
            "row 0 []\n", "row 0 [00: 00 []]", "row 0 [012: 11 []]",
        ])

    def test_sums_in_trees(self):
        self.refused(read_tree, [
            "sum", "sum ", "sum ()", "sum (", "sum )", ROUND_TEXT, f"sum {ROUND_TEXT}", f"sum ({ROUND_TEXT}",
            f"sum {ROUND_TEXT})", f"sum ({ROUND_TEXT}) []", f"sum ({ROUND_TEXT}) ", f"sum( {ROUND_TEXT})",
            f"sum({ROUND_TEXT})", f"sum  ({ROUND_TEXT})", f"sum ( {ROUND_TEXT})", f"sum ({ROUND_TEXT} )",
            f"sum (({ROUND_TEXT}))", f"sum ({ROUND_TEXT}))", f"sum [{ROUND_TEXT}]", f"row 0 [00: sum ({ROUND_TEXT})",
            f"row 0 [00: sum ({ROUND_TEXT}]", f"row ({ROUND_TEXT}) []", "sum (mod 2; rows 0; columns 0; things -0)",
            "sum (mod 2; rows 0; columns 0; things)", "sum (row 0 [])",
        ])

    def test_mate_trees(self):
        self.refused(read_mate_tree, [
            "00", "00 ", "00 [", "00[]", "00  []", " 00 []", "00 [] ", "0 []", "000 []", "09 []", "90 []", "0,0 []",
            "-0 []", "00 [ ]", "00 []]", "00 [[]]", "00 [0]", "00 [0:]", "00 [0: ]", "00 [0:11 []]", "00 [0 : 11 []]",
            "00 [0: 11 []", "00 [0: 11]", "00 [00: 11 []]", "00 [1: 11 []]", "00 [02: 11 []]",
            "00 [0123456789: 11 []]", "00 [: 11 []]", "00 [ 0: 11 []]", "00 [0: 11 []; ]", "00 [; 0: 11 []]",
            "00 [0: 11 [];0: 11 []]", "00 [0: 11 [], 0: 11 []]", "00 [0: 11 [] 0: 11 []]", "00 [0: 19 []]",
            "row 0 []", "00 []\n", "00 [0: row 0 []]", "00 (0: 11 [])", "00 [-0: 11 []]", "012: 11 []",
        ])

    def test_fifty_one_deep(self):
        for leaf in (("thing", 8, []), ("sum", ROUND_PAPER, [])):
            for deep in (51, 52, 60):
                self.refused(read_tree, [show_tree(case_chain(deep, leaf))])
            # Too deep in the last branch alone, behind others that are not.
            tree = ("row", 0, [((0, 0), case_chain(49, leaf)), ((0, 1), case_chain(50, leaf))])
            self.refused(read_tree, [show_tree(tree)])
        for deep in (51, 52, 60):
            self.refused(read_mate_tree, [show_mate_tree(mate_chain(deep))])
        tree = ((0, 0), [([0], mate_chain(49)), ([0], mate_chain(50))])
        self.refused(read_mate_tree, [show_mate_tree(tree)])

    def test_thousands_of_brackets(self):
        deep = ["[" * 10000, "(" * 10000, "[" * 5000 + "]" * 5000, "(" * 5000 + ")" * 5000, "row 0 [" * 1400,
                "row 0 [00: " * 900, "row 0 [00: " * 1200 + "row 0 []" + "]" * 1200, "00 [0: " * 1250,
                "00 [0: " * 1200 + "00 []" + "]" * 1200, "sum (" * 2000, "sum (" * 1600 + ")" * 1600, "[]" * 5000,
                "row 0 []" * 1250, "row 0 [" + "00: row 0 []; " * 700]
        for show, read in PAIRS:
            self.refused(read, deep)

    def test_changed_texts(self):
        """Texts near to such as are read: read just where they are written so, and to what is written so."""
        draw = Random(155)
        told = {read: [] for show, read in PAIRS}
        for time in range(60):
            values = (drawn_square(draw, draw.randint(1, 5)), drawn_order(draw, draw.randint(1, 9)), drawn_paper(draw),
                      drawn_case_tree(draw, 4), drawn_mate_tree(draw, 4))
            for (show, read), value in zip(PAIRS, values):
                for text in changed_texts(show(value), draw, 12):
                    right = TELLERS[read](text)
                    told[read].append(right)
                    if right:
                        self.assertEqual(show(read(text)), text)
                    else:
                        check_refused(self, NoText, read, text)
        for read in told:
            self.assertGreater(min(told[read].count(True), told[read].count(False)), 40)

    def test_drawn_signs(self):
        draw = Random(156)
        for show, read in PAIRS:
            for time in range(300):
                text = "".join(draw.choice(SIGNS) for k in range(draw.randrange(12)))
                if not TELLERS[read](text):
                    check_refused(self, NoText, read, text)


class Own(unittest.TestCase):
    def test_of_values(self):
        draw = Random(157)
        for n in range(1, 10):
            check_own(self, show_square, (drawn_square(draw, n),), (round_square(n),))
            check_own(self, show_way, (drawn_order(draw, n),), (drawn_order(draw, n),))
        check_own(self, show_sum, (ROUND_PAPER,), ((4, [4, 5], [6], [7, -8]),))
        for time in range(20):
            case, mate = drawn_case_tree(draw, 5), drawn_mate_tree(draw, 5)
            check_own(self, show_tree, (case,), (case,))
            check_own(self, show_mate_tree, (mate,), (mate,))
        check_own(self, show_mate_tree, (((0, 0), [([0, 1], ((1, 1), []))]),), (((0, 0), [([1, 0], ((1, 1), []))]),))
        check_own(self, show_tree, (("sum", ROUND_PAPER, []),), (("sum", (4, [1], [2], [3]), []),))

    def test_of_texts(self):
        draw = Random(158)
        for time in range(20):
            for read, text in ((read_square, show_square(drawn_square(draw, draw.randint(1, 9)))),
                               (read_way, show_way(drawn_order(draw, draw.randint(1, 9)))),
                               (read_sum, show_sum(drawn_paper(draw))),
                               (read_tree, show_tree(drawn_case_tree(draw, 5))),
                               (read_mate_tree, show_mate_tree(drawn_mate_tree(draw, 5)))):
                check_own(self, read, (text,), (text,))

    def test_alike_pieces_are_lists_of_their_own(self):
        piece = f"00: sum ({ROUND_TEXT})"
        for read, text in ((read_tree, f"row 0 [{piece}; {piece}; 00: row 0 [{piece}]]"),
                           (read_mate_tree, "00 [01: 00 []; 01: 00 []; 01: 00 [01: 00 []]]"),
                           (read_sum, ROUND_TEXT)):
            told = read(text)
            addresses = [id(found) for found in lists_in(told)]
            self.assertEqual(len(addresses), len(set(addresses)))
            again = read(text)
            spoil(told)
            self.assertEqual(read(text), again)

    def test_refused_then_not(self):
        for show, read in PAIRS:
            check_refused(self, NoText, read, "row 0 [00: ")
        self.assertEqual(read_tree("row 0 []"), ("row", 0, []))
        self.assertEqual(read_mate_tree("00 []"), ((0, 0), []))
