"""Promise [3]: what the modules promise together."""

import importlib
import inspect
import unittest
from itertools import combinations
from random import Random

from squaremates.desk import Desk
from squaremates.exchanges import exchanged, exchanges, parts, put_part
from squaremates.leastforms import alike, alike_count, least_form
from squaremates.longer import prolonged, shortened, ways_apart
from squaremates.makings import made_set
from squaremates.mates import mate_or_tree, no_mate, parting_of, partings
from squaremates.numbered import count, number_of, square_at
from squaremates.papertexts import (
    read_mate_tree, read_square, read_sum, read_tree, show_mate_tree, show_square, show_sum, show_tree,
)
from squaremates.planes import is_plane, plane_of, set_of
from squaremates.rests import all_mates
from squaremates.sets import is_set, witness
from squaremates.squares import renamed
from squaremates.sumpapers import plain_sum, sum_bars
from squaremates.trees import tree_bars, way_or_tree
from squaremates.ways import first_way, ways
from squaremates.within import content, part_squares, put_in
from tests.helpers import (
    FOUR_ONCE, UNEVEN, WAYLESS_SIX, all_squares, changed_paper, drawn_renaming, drawn_squares, is_square,
    plain_clash, plain_mates, plain_renamed, plain_ways, round_paper, round_square,
)

INTERFACE = {
    "squares": "look_at_square(square) cells(square) turned(square,turning) joined_turnings(one,other) "
               "renamed(square,renaming) joined(one,other) back(renaming)",
    "leastforms": "least_form(square) alike(one,other) selves(square) alike_count(square) main_form(square)",
    "fields": "plus(q,a,b) times(q,a,b)",
    "makings": "field_squares(q) round_square(n) product(one,other) made_set(n)",
    "sets": "is_set(squares) witness(squares)",
    "planes": "plane_of(squares) is_plane(n,lines) set_of(n,lines,far)",
    "exchanges": "rings(square,sort,i,k) exchanged(square,sort,i,k,ring) fours(square) parts(one,other) "
                 "put_part(one,other,part) exchanges(one,other)",
    "ways": "is_way(square,way) ways(square) first_way(square,cells) through(square)",
    "sumpapers": "sum_bars(square,paper) plain_sum(square)",
    "trees": "tree_bars(square,cells,tree) way_or_tree(square,cells)",
    "mates": "are_mates(one,other) mate_of(parting) parting_of(square,mate) no_mate(square,tree) "
             "mate_or_tree(square) partings(square)",
    "within": "part_squares(square,k) content(square,rows,columns) put_in(square,rows,columns,other)",
    "numbered": "count(n) first_count(n) number_of(square) square_at(n,number) behind(square) going_on(n,rows)",
    "papertexts": "show_square(square) show_way(way) show_sum(paper) show_tree(tree) show_mate_tree(tree) "
                  "read_square(text) read_way(text) read_sum(text) read_tree(text) read_mate_tree(text)",
    "longer": "prolonged(square,way) shortened(square) ways_apart(square,way)",
    "rounds": "is_rounds(m,rounds) square_of_rounds(rounds) rounds_of(square) made_rounds(m)",
    "triples": "is_triples(n,triples) square_of_triples(n,triples) triples_of(square) made_triples(n)",
    "rests": "differences(n,order) is_spread(n,order) zigzag(n) spread_orders(n) spread_square(n,order) "
             "neighbourly(square) shifted(way) all_mates(square)",
}
SMALL = [
    *drawn_squares(170, range(1, 7), 3), *[round_square(n) for n in range(1, 7)], FOUR_ONCE, UNEVEN["rct"],
    *WAYLESS_SIX,
]


class Interface(unittest.TestCase):
    def test_names_and_arguments(self):
        for module, listed in INTERFACE.items():
            for entry in listed.split(" "):
                name, arguments = entry[:-1].split("(")
                function = getattr(importlib.import_module(f"squaremates.{module}"), name)
                self.assertTrue(inspect.isfunction(function))
                told = list(inspect.signature(function).parameters)
                self.assertEqual(len(told), len(arguments.split(",")), (module, name))

    def test_desk(self):
        self.assertTrue(inspect.isclass(Desk))
        self.assertIn("say", vars(Desk))
        self.assertEqual(list(inspect.signature(Desk).parameters), [])
        self.assertEqual(list(inspect.signature(Desk.say).parameters), ["self", "line"])


class Ways(unittest.TestCase):
    def test_a_way_or_a_paper(self):
        """Of each square and of cells of it: the first way, or a tree that is let by, also read from its text."""
        words = []
        for square in SMALL:
            n = len(square)
            known = plain_ways(square)
            self.assertEqual(ways(square), known)
            for cells in [[], *[[(r, c)] for r in range(n) for c in range(n)][::3], [(0, 0), (n - 1, n - 1)]]:
                if plain_clash(square, cells):
                    continue
                word, shown = way_or_tree(square, cells)
                words.append(word)
                through = [way for way in known if all(way[r] == c for r, c in cells)]
                if word == "way":
                    self.assertEqual(shown, through[0])
                else:
                    self.assertEqual((word, through), ("barred", []))
                    self.assertIs(tree_bars(square, cells, shown), True)
                    self.assertIs(tree_bars(square, cells, read_tree(show_tree(shown))), True)
        self.assertGreater(min(words.count("way"), words.count("barred")), 20)

    def test_sum_papers_let_by(self):
        """Papers of others, near to plain ones: what is let by is right."""
        draw = Random(171)
        told = []
        squares = [square for square in SMALL if len(square) > 1]
        for time in range(400):
            square = draw.choice(squares)
            n = len(square)
            paper = plain_sum(square) or round_paper(n, n, 1)
            places = [(part, k) for part in range(3) for k in range(n)]
            changes = {place: draw.randint(-n, n) for place in draw.sample(places, draw.randrange(3))}
            changed = changed_paper(paper, changes)
            told.append(sum_bars(square, changed))
            self.assertIs(sum_bars(square, read_sum(show_sum(changed))), told[-1])
            if told[-1]:
                self.assertEqual(plain_ways(square), [])
        self.assertGreater(min(told.count(True), told.count(False)), 20)

    def test_trees_let_by(self):
        """A tree of one square held against others: where it is let by, there is no way either."""
        barred = [square for square in SMALL if not plain_ways(square)]
        let_by = 0
        for square in barred:
            tree = way_or_tree(square, [])[1]
            for other in [other for other in SMALL if len(other) == len(square)]:
                if tree_bars(other, [], tree):
                    let_by += 1
                    self.assertEqual(plain_ways(other), [])
        self.assertGreaterEqual(let_by, len(barred))


class Mates(unittest.TestCase):
    def test_a_mate_or_a_paper(self):
        words = []
        for square in [square for square in [*SMALL, *drawn_squares(172, [5], 20)] if len(square) < 6]:
            word, shown = mate_or_tree(square)
            words.append(word)
            mates = all_mates(square)
            self.assertEqual(len(mates), partings(square))
            if word == "mate":
                self.assertIn(shown, mates)
                self.assertTrue(plain_mates(square, shown))
                for way in parting_of(square, shown):
                    self.assertIn(way, ways(square))
            else:
                self.assertEqual((word, mates), ("none", []))
                self.assertIs(no_mate(square, shown), True)
                self.assertIs(no_mate(square, read_mate_tree(show_mate_tree(shown))), True)
        self.assertGreater(min(words.count("mate"), words.count("none")), 4)

    def test_trees_let_by(self):
        squares = [*all_squares(3), *all_squares(4)[::13], *drawn_squares(173, [5], 10)]
        trees = [tree for word, tree in [mate_or_tree(square) for square in squares] if word == "none"]
        for square in squares:
            for tree in trees[::5]:
                if no_mate(square, tree):
                    self.assertEqual(all_mates(square), [])

    def test_made_sets_and_planes(self):
        for n in range(2, 10):
            squares = made_set(n)
            self.assertIs(is_set(squares), True)
            self.assertTrue(all(plain_mates(one, other) for one, other in combinations(squares, 2)))
            columns = witness(squares)
            self.assertEqual(len(set(columns)), len(squares))
            self.assertNotIn(0, columns)
            self.assertLessEqual(len(squares), n - 1)
            if n > 5:
                continue
            lines = plane_of(squares)
            self.assertIs(is_plane(n, lines), True)
            for far in range(len(lines)):
                full = set_of(n, lines, far)
                self.assertEqual(len(full), n - 1)
                self.assertTrue(all(is_square(square) for square in full))
                self.assertIs(is_set(full), True)
                self.assertIs(is_plane(n, plane_of(full)), True)


class Forms(unittest.TestCase):
    def test_one_form_just_where_alike(self):
        draw = Random(174)
        squares = [*SMALL, *[plain_renamed(square, drawn_renaming(draw, len(square))) for square in SMALL]]
        same = 0
        for one, other in combinations(squares, 2):
            if len(one) != len(other):
                continue
            renaming = alike(one, other)
            self.assertEqual(renaming is not None, least_form(one)[0] == least_form(other)[0])
            if renaming is not None:
                same += 1
                self.assertEqual(renamed(one, renaming), other)
        self.assertGreaterEqual(same, len(SMALL))

    def test_as_many_as_are_counted(self):
        """Each square of four things has one least form, and so many have it as are told to be alike."""
        forms = [least_form(square)[0] for square in all_squares(4)]
        found = [form for at, form in enumerate(forms) if form not in forms[:at]]
        for form in found:
            self.assertEqual(alike_count(form), forms.count(form))
        self.assertEqual(sum(alike_count(form) for form in found), count(4))


class Changes(unittest.TestCase):
    def test_exchanges(self):
        draw = Random(175)
        for n in range(1, 5):
            known = all_squares(n)
            for time in range(8):
                one, other = draw.choice(known), draw.choice(known)
                steps = exchanges(one, other)
                square = one
                for sort, i, k, ring in steps:
                    there = exchanged(square, sort, i, k, ring)
                    self.assertTrue(is_square(there))
                    self.assertEqual(exchanged(there, sort, i, k, ring), square)
                    square = there
                self.assertEqual(square, other)

    def test_parts(self):
        for one, other in zip(drawn_squares(176, range(1, 10), 3), drawn_squares(177, range(1, 10), 3)):
            square = one
            for part in parts(one, other):
                self.assertTrue(is_square(put_part(one, other, part)))
                square = put_part(square, other, part)
                self.assertTrue(is_square(square))
            self.assertEqual(square, other)

    def test_numbers(self):
        for square in [square for square in SMALL if len(square) < 6]:
            n = len(square)
            self.assertEqual(square_at(n, number_of(square)), square)
            self.assertEqual(read_square(show_square(square)), square)
        for n in range(1, 6):
            for number in range(0, count(n), 1 + count(n) // 50):
                self.assertEqual(number_of(square_at(n, number)), number)

    def test_longer_ones(self):
        for square in SMALL:
            way = first_way(square, [])
            if way is not None:
                longer = prolonged(square, way)
                self.assertTrue(is_square(longer))
                self.assertEqual(shortened(longer), (square, way))
                for other in ways_apart(square, way)[:3]:
                    self.assertTrue(is_square(prolonged(longer, [*other, len(square)])))

    def test_squares_within(self):
        for square in SMALL:
            for rows, columns in part_squares(square, 2):
                one, other = content(square, rows, columns), [[0, 1], [1, 0]]
                there = put_in(square, rows, columns, [row[::-1] for row in one])
                self.assertTrue(is_square(there))
                self.assertEqual(len(parts(square, there)), 1)
                self.assertIn(one, (other, other[::-1]))


class AtTheDesk(unittest.TestCase):
    def test_a_day_at_the_desk(self):
        """Lines that hang together: what one answers the next is told."""
        desk = Desk()
        for number in (0, 1, 700, 100000, 161279):
            text = desk.say(f"at 5 {number}")
            self.assertEqual(desk.say(f"square it {text}"), "ok")
            self.assertEqual(desk.say("number it"), str(number))
            mate = desk.say("mate it")
            if mate != "none":
                desk.say(f"square mate {mate}")
                self.assertEqual(desk.say("mates it mate"), "yes")
            desk.say(f"square least {desk.say('least it')}")
            self.assertEqual(desk.say("alike it least"), "yes")
            way = desk.say("way it")
            self.assertEqual(way == "none", desk.say("ways it") == "0")
            if way != "none":
                self.assertEqual(desk.say(f"longer it {way}"), "ok")
                self.assertEqual(desk.say("shorter it"), f"{text} by {way}")
                self.assertEqual(desk.say("parts it least"), "unlike")
