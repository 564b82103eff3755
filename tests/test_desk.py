import unittest
from random import Random

from squaremates.desk import Desk
from squaremates.errors import MateError, NoField, NoLine, NoName, NoNumber, NoRing, NoTurning, NoWay
from squaremates.exchanges import exchanged, parts, rings
from squaremates.leastforms import alike, least_form, selves
from squaremates.longer import prolonged, shortened
from squaremates.makings import field_squares
from squaremates.mates import mate_or_tree
from squaremates.numbered import count, number_of, square_at
from squaremates.rounds import made_rounds
from squaremates.triples import made_triples
from tests.helpers import (
    FIELDS, FOUR_ONCE, TURNINGS, check_refused, drawn_renaming, drawn_square, drawn_squares, plain_mates,
    plain_renamed, plain_turned, plain_ways, round_square,
)

# One line of each kind that is answered where a to d stand, as in told_desk.
LINES = [
    "square a 01 10", "drop a", "names", "show a", "turn a crt", "alike a b", "least a", "selves a", "ways a", "way a",
    "mates a b", "mate a", "rings a r 0 1", "exchange a c 0 2 0,1,2", "parts a b", "round 3", "field 3", "number a",
    "at 3 4", "longer a 120", "shorter a", "rounds 4", "triples 7",
]
LONG_NUMBER = "9" * 40


def text_of(square):
    return " ".join("".join(str(thing) for thing in row) for row in square)


def desk_with(squares):
    desk = Desk()
    for name, square in squares.items():
        assert desk.say(f"square {name} {text_of(square)}") == "ok"
    return desk


def told_desk():
    return desk_with({"a": round_square(3), "b": [[0, 1, 2], [2, 0, 1], [1, 2, 0]], "c": FOUR_ONCE,
                      "d": round_square(7), "e": round_square(9), "f": [[0]], "g": round_square(6)})


def all_of(desk):
    """All that the desk keeps, as lines tell it."""
    names = desk.say("names")
    return [(name, desk.say(f"show {name}")) for name in names.split(" ") if names != "none"]


class Case(unittest.TestCase):
    def refused(self, desk, kind, line):
        kept = all_of(desk)
        check_refused(self, kind, desk.say, line)
        self.assertEqual(all_of(desk), kept)

    def told(self, desk, line, answer):
        told = desk.say(line)
        self.assertIsInstance(told, str)
        self.assertEqual(told, answer)
        return told


class Names(Case):
    def test_keeping(self):
        desk = Desk()
        self.told(desk, "names", "none")
        self.told(desk, "square b 01 10", "ok")
        self.told(desk, "names", "b")
        self.told(desk, "square a 012 120 201", "ok")
        self.told(desk, "square c 0", "ok")
        self.told(desk, "names", "b a c")
        self.told(desk, "show a", "012 120 201")
        self.told(desk, "show b", "01 10")
        self.told(desk, "square b 10 01", "ok")
        self.told(desk, "names", "b a c")
        self.told(desk, "show b", "10 01")
        self.told(desk, "drop b", "ok")
        self.told(desk, "names", "a c")
        self.refused(desk, NoName, "show b")
        self.refused(desk, NoName, "drop b")
        self.told(desk, "square b 0", "ok")
        self.told(desk, "names", "a c b")
        for name in "abc":
            self.told(desk, f"drop {name}", "ok")
        self.told(desk, "names", "none")

    def test_written_names(self):
        for name in ("a", "z", "azazazaz", "abcdefgh", "none", "square", "names", "by"):
            desk = Desk()
            self.told(desk, f"square {name} 01 10", "ok")
            self.told(desk, "names", name)
            self.told(desk, f"show {name}", "01 10")
            self.told(desk, f"turn {name} rct", "01 10")
            self.told(desk, f"mates {name} {name}", "no")
            self.told(desk, f"drop {name}", "ok")

    def test_no_names(self):
        for name in ("", "abcdefghi", "A", "aB", "a1", "1", "a-b", "a_b", "a.", "~", "a,b", "abcdefghijklmnop"):
            desk = told_desk()
            for line in LINES:
                words = line.split(" ")
                if words[1:2] in (["a"], ["b"]):
                    self.refused(desk, NoLine, " ".join([words[0], name, *words[2:]]))
                if words[2:] == ["b"]:
                    self.refused(desk, NoLine, " ".join([*words[:2], name]))

    def test_names_that_do_not_stand(self):
        for line in LINES:
            words = line.split(" ")
            desk = told_desk()
            if words[0] != "square" and words[1:2] == ["a"]:
                self.refused(desk, NoName, " ".join([words[0], "x", *words[2:]]))
            if words[2:] == ["b"]:
                self.refused(desk, NoName, f"{words[0]} a x")
                self.refused(desk, NoName, f"{words[0]} x x")
                self.refused(desk, NoName, f"{words[0]} x b")

    def test_squares(self):
        for square in [*drawn_squares(160, range(1, 10), 4), *[round_square(n) for n in range(1, 10)]]:
            desk = desk_with({"one": square})
            self.told(desk, "show one", text_of(square))

    def test_texts_that_are_no_squares(self):
        desk = told_desk()
        for text in ("", "1", "00", "01 01", "01", "0 1", "01 10 ", " 01 10", "01  10", "0110", "012 120", "01 1x",
                     "01,10", "00 11", "012 120 210", "0123456789", "a", "01 -10", "01 10 01"):
            self.refused(desk, NoLine, f"square a {text}")
            self.refused(desk, NoLine, f"square new {text}")
        self.refused(desk, NoLine, f"square new {text_of(round_square(10))}")
        self.refused(desk, NoLine, "square")
        self.refused(desk, NoLine, "square a")
        self.refused(desk, NoLine, "square 01 10")

    def test_two_desks(self):
        one, other = Desk(), Desk()
        self.told(one, "square a 01 10", "ok")
        self.told(other, "names", "none")
        self.refused(other, NoName, "show a")
        self.told(other, "square a 0", "ok")
        self.told(one, "show a", "01 10")
        self.refused(other, NoRing, "exchange a r 0 1 0")
        self.told(one, "exchange a r 0 1 0,1", "ok")
        self.told(one, "show a", "10 01")
        self.told(other, "show a", "0")
        self.told(other, "drop a", "ok")
        self.told(one, "names", "a")


class Answers(Case):
    def squares(self):
        draw = Random(161)
        for n in range(1, 10):
            yield round_square(n)
            yield drawn_square(draw, n)
            yield plain_renamed(round_square(n), drawn_renaming(draw, n))

    def test_each_line(self):
        for line in LINES:
            told_desk().say(line)

    def test_turn(self):
        for square in self.squares():
            desk = desk_with({"it": square})
            for turning in TURNINGS:
                self.told(desk, f"turn it {turning}", text_of(plain_turned(square, turning)))
                self.told(desk, "show it", text_of(square))
            for wrong in ("x", "rc", "rctr", "rrr", "RCT", "r,c,t", "012", "~", "crt,", "none"):
                self.refused(desk, NoTurning, f"turn it {wrong}")

    def test_alike_and_mates(self):
        squares = [square for square in self.squares() if len(square) <= 6] + [FOUR_ONCE]
        for one in squares:
            for other in squares:
                desk = desk_with({"one": one, "other": other})
                same = len(one) == len(other)
                self.told(desk, "alike one other", "yes" if same and alike(one, other) is not None else "no")
                self.told(desk, "mates one other", "yes" if same and plain_mates(one, other) else "no")
            self.told(desk_with({"one": one}), "alike one one", "yes")

    def test_mates(self):
        for q in FIELDS:
            known = field_squares(q)
            desk = desk_with({"first": known[0], "last": known[-1], "single": [[0]]})
            self.told(desk, "mates first last", "yes" if q > 2 else "no")
            self.told(desk, "mates last first", "yes" if q > 2 else "no")
            self.told(desk, "mates first first", "no")
            self.told(desk, "mates first single", "no")
            self.told(desk, "mates single last", "no")
            self.told(desk, "mates single single", "yes")

    def test_forms_and_ways(self):
        for square in self.squares():
            desk = desk_with({"it": square})
            if len(square) > 6:
                for line in ("least it", "selves it", "ways it", "way it", "alike it it"):
                    self.refused(desk, NoLine, line)
                continue
            self.told(desk, "least it", text_of(least_form(square)[0]))
            self.told(desk, "selves it", str(selves(square)))
            ways = plain_ways(square)
            self.told(desk, "ways it", str(len(ways)))
            self.told(desk, "way it", "".join(str(c) for c in ways[0]) if ways else "none")

    def test_by_hand(self):
        desk = told_desk()
        self.told(desk, "least b", "012 120 201")
        self.told(desk, "selves a", "18")
        self.told(desk, "ways a", "3")
        self.told(desk, "way a", "012")
        self.told(desk, "way g", "none")
        self.told(desk, "ways g", "0")
        self.told(desk, "mate a", "012 201 120")
        self.told(desk, "mate f", "0")
        self.told(desk, "rings c r 0 1", "0,1 2,3")
        self.told(desk, "parts a a", "0")
        self.told(desk, "parts a b", "1")
        self.told(desk, "parts a c", "unlike")
        self.told(desk, "round 4", "0123 1230 2301 3012")
        self.told(desk, "field 3", "012 120 201; 012 201 120")
        self.told(desk, "number a", "0")
        self.told(desk, "at 3 11", "210 102 021")
        self.told(desk, "shorter f", "none")
        self.told(desk, "rounds 4", "0-3 1-2; 0-2 1-3; 0-1 2-3")
        self.told(desk, "rounds 2", "0-1")
        self.told(desk, "triples 1", "none")
        self.told(desk, "triples 3", "012")
        self.told(desk, "triples 7", "013 026 045 124 156 235 346")

    def test_mate_and_number(self):
        words = []
        for square in [*self.squares(), FOUR_ONCE]:
            desk = desk_with({"it": square})
            if len(square) > 5:
                self.refused(desk, NoLine, "mate it")
                self.refused(desk, NoLine, "number it")
                continue
            word, shown = mate_or_tree(square)
            words.append(word)
            told = desk.say("mate it")
            if word == "none":
                self.assertEqual(told, "none")
            else:
                mate = [[int(sign) for sign in row] for row in told.split(" ")]
                self.assertTrue(plain_mates(square, mate))
                self.assertEqual(mate[0], list(range(len(square))))
            self.told(desk, "number it", str(number_of(square)))
            self.told(desk, f"at {len(square)} {number_of(square)}", text_of(square))
        self.assertEqual(set(words), {"mate", "none"})

    def test_rings_and_exchanges(self):
        for square in self.squares():
            n = len(square)
            desk = desk_with({"first": [[0]], "it": square, "last": [[0]]})
            for sort in "rct":
                for i, k in [(i, k) for k in range(n) for i in range(k)][::3]:
                    known = rings(square, sort, i, k)
                    written = [",".join(str(number) for number in ring) for ring in known]
                    self.told(desk, f"rings it {sort} {i} {k}", " ".join(written))
                    for ring, text in zip(known, written):
                        self.told(desk, f"exchange it {sort} {i} {k} {text}", "ok")
                        self.told(desk, "show it", text_of(exchanged(square, sort, i, k, ring)))
                        self.told(desk, "names", "first it last")
                        self.told(desk, f"exchange it {sort} {i} {k} {text}", "ok")
                        self.told(desk, "show it", text_of(square))

    def test_no_rings(self):
        desk = told_desk()
        for sort in "rct":
            for numbers in ("1 0", "0 0", "0 4", "4 5", "2 2", f"0 {LONG_NUMBER}", f"{LONG_NUMBER} 0"):
                self.refused(desk, NoRing, f"rings c {sort} {numbers}")
                self.refused(desk, NoRing, f"exchange c {sort} {numbers} 0,1")
            for ring in ("0", "1,0", "0,1,2,3", "0,0,1", "0,2", "3,4", "0,1,1", LONG_NUMBER, "9,9", "1"):
                self.refused(desk, NoRing, f"exchange c {sort} 0 1 {ring}")

    def test_parts(self):
        draw = Random(162)
        for n in range(1, 10):
            one, other = drawn_square(draw, n), drawn_square(draw, n)
            desk = desk_with({"one": one, "other": other, "great": round_square(9 if n < 9 else 8)})
            self.told(desk, "parts one other", str(len(parts(one, other))))
            self.told(desk, "parts other one", str(len(parts(other, one))))
            self.told(desk, "parts one one", "0")
            self.told(desk, "parts one great", "unlike")
            self.told(desk, "parts great one", "unlike")

    def test_made_ones(self):
        desk = Desk()
        for n in range(1, 10):
            self.told(desk, f"round {n}", text_of(round_square(n)))
        for q in FIELDS:
            self.told(desk, f"field {q}", "; ".join(text_of(square) for square in field_squares(q)))
        for m in (2, 4, 6, 8):
            self.told(desk, f"rounds {m}",
                      "; ".join(" ".join(f"{a}-{b}" for a, b in pairs) for pairs in made_rounds(m)))
        for n in (3, 7, 9):
            self.told(desk, f"triples {n}", " ".join("".join(str(k) for k in triple) for triple in made_triples(n)))
        for n in range(1, 6):
            for number in {0, count(n) // 3, count(n) - 1}:
                self.told(desk, f"at {n} {number}", text_of(square_at(n, number)))
        self.told(desk, "names", "none")

    def test_no_such_ones(self):
        desk = told_desk()
        for number in ("0", "10", "11", "99", LONG_NUMBER):
            self.refused(desk, NoLine, f"round {number}")
        for number in ("0", "1", "6", "10", "11", LONG_NUMBER):
            self.refused(desk, NoField, f"field {number}")
        for number in ("0", "1", "3", "5", "7", "9", "10", LONG_NUMBER):
            self.refused(desk, NoLine, f"rounds {number}")
        for number in ("0", "2", "4", "5", "6", "8", "10", "13", LONG_NUMBER):
            self.refused(desk, NoNumber, f"triples {number}")
        for number in ("0", "6", "7", "10", LONG_NUMBER):
            self.refused(desk, NoLine, f"at {number} 0")
            self.refused(desk, NoLine, f"at {number} {LONG_NUMBER}")
        for n in range(1, 6):
            self.refused(desk, NoNumber, f"at {n} {count(n)}")
            self.refused(desk, NoNumber, f"at {n} {LONG_NUMBER}")

    def test_longer_and_shorter(self):
        some = 0
        for square in self.squares():
            n = len(square)
            desk = desk_with({"first": [[0]], "it": square, "last": [[0]]})
            found = shortened(square) if n > 1 else None
            self.told(desk, "shorter it", "none" if found is None else f"{text_of(found[0])} by {text_of([found[1]])}")
            if n > 8:
                self.refused(desk, NoLine, "longer it " + "".join(str(k) for k in range(9)))
                self.refused(desk, NoLine, "longer it 0")
                continue
            ways = plain_ways(square) if n < 7 else [[2 * k % n for k in range(n)]] if square == round_square(7) else []
            for way in ways[:3]:
                some += 1
                written = "".join(str(c) for c in way)
                self.told(desk, f"longer it {written}", "ok")
                self.told(desk, "show it", text_of(prolonged(square, way)))
                self.told(desk, "shorter it", f"{text_of(square)} by {written}")
                self.told(desk, "show it", text_of(prolonged(square, way)))
                self.told(desk, "names", "first it last")
                self.told(desk, f"square it {text_of(square)}", "ok")
        self.assertGreater(some, 20)

    def test_no_ways(self):
        desk = told_desk()
        for way in ("021", "102", "210", "01", "0", "0123", "012345678"):
            self.refused(desk, NoWay, f"longer a {way}")
        for way in ("012345", "543210", "0", "0123456"):
            self.refused(desk, NoWay, f"longer g {way}")
        for way in ("", "00", "1", "013", "0,1,2", "a", "0-12", "0123456789", "012 ", "0 1 2", "011"):
            self.refused(desk, NoLine, f"longer a {way}")

    def test_eight_to_nine_things(self):
        square, mate, *others = field_squares(8)
        desk = desk_with({"it": square})
        # The cells in which a mate has one thing are a way.
        written = "".join(str(row.index(0)) for row in mate)
        self.told(desk, f"longer it {written}", "ok")
        self.told(desk, "shorter it", f"{text_of(square)} by {written}")
        self.refused(desk, NoLine, f"longer it {written}")


class Lines(Case):
    def test_blanks_and_words(self):
        for line in LINES:
            desk = told_desk()
            words = line.split(" ")
            first, rest = words[0], line[len(words[0]):]
            wrong = [" " + line, line + " ", line + " a", line + " 0", line + " x", line.upper(), line + ",",
                     line + ";", first + "x" + rest, first.title() + rest, line.replace(" ", "  ", 1)]
            wrong += [" ".join(words[:at] + [""] + words[at:]) for at in range(len(words) + 1)]
            wrong += [" ".join(words[:at]) for at in range(len(words))]
            wrong += [" ".join(words[:at] + words[at + 1:]) for at in range(len(words))]
            for other in wrong:
                if other != line and not self.is_other_line(other):
                    self.refused(desk, NoLine, other)

    def is_other_line(self, line):
        """A line with another word instead of its turning is a line still, refused with NoTurning."""
        words = line.split(" ")
        return words[:2] == ["turn", "a"] and len(words) == 3 and words[2] != ""

    def test_first_words(self):
        desk = told_desk()
        for line in ("", " ", "x", "help", "squares", "name", "Names", "NAMES", "namesx", "names names", "a", "a a",
                     "0", "~", "show", "way", "round", "at", "at 3", "at 3 4 5", "none", "ok", "x" * 400, " " * 400,
                     "names" + " " * 395):
            self.refused(desk, NoLine, line)

    def test_numbers(self):
        desk = told_desk()
        wrong = ["", "-1", "+1", "01", "00", "-0", "1.0", "a", "1a", "1,", " 1", "1 ", "9" * 41, "1" + "0" * 40,
                 "0" * 40, "1_0", "0x1"]
        for number in wrong:
            for line in ("round {}", "field {}", "rounds {}", "triples {}", "at {} 0", "at 3 {}", "rings a r {} 1",
                         "rings a r 0 {}", "exchange a r {} 1 0,1,2", "exchange a r 0 {} 0,1,2", "exchange a r 0 1 {}",
                         "exchange a r 0 1 0,{}", "exchange a r 0 1 {},1"):
                self.refused(desk, NoLine, line.format(number))
        for ring in (",", "0,", ",0", "0,,1", "0, 1", "0 1", "0;1", "0-1", "[0,1]"):
            self.refused(desk, NoLine, f"exchange a r 0 1 {ring}")

    def test_sorts(self):
        desk = told_desk()
        for sort in ("", "R", "rc", "rct", "x", "row", "0", "rr"):
            self.refused(desk, NoLine, f"rings a {sort} 0 1")
            self.refused(desk, NoLine, f"exchange a {sort} 0 1 0,1,2")

    def test_no_line_ahead_of_no_name(self):
        desk = told_desk()
        for line in ("rings x q 0 1", "rings x r 0 -1", "rings x r 00 1", "exchange x r 0 1 0,,1",
                     "exchange x r 0 1 01", "exchange x q 0 1 0,1", "longer x 00", "longer x 1",
                     "longer x 0123456789", "turn x", "turn x rct rct", "turn x ", "mates x", "mates x X", "mates X x",
                     "alike x x x", "parts x y1", "drop x x", "show x ", "number x 0", "shorter x 0", "way x 0"):
            self.refused(desk, NoLine, line)

    def test_no_name_ahead_of_sizes_and_stages(self):
        desk = told_desk()
        for line in ("alike x d", "alike d x", "alike x x", "turn x zzz", "turn x rrr", "rings x r 1 0",
                     "rings x r 9 9", "exchange x r 0 1 9", "longer x 0", "longer x 012345678", "mates d x",
                     "parts e x", "parts x a"):
            self.refused(desk, NoName, line)

    def test_sizes(self):
        desk = told_desk()
        for name in "de":
            for line in (f"alike {name} a", f"alike a {name}", f"alike {name} {name}", f"least {name}",
                         f"selves {name}", f"ways {name}", f"way {name}", f"mate {name}", f"number {name}"):
                self.refused(desk, NoLine, line)
        for line in ("mate g", "number g"):
            self.refused(desk, NoLine, line)
        for line in ("alike g g", "least g", "selves g", "ways g", "way g", "alike g a", "mates d e", "parts d e",
                     "turn e crt", "rings e t 0 1", "shorter e", "show e"):
            desk.say(line)
        # The size is looked at ahead of the way.
        self.refused(desk, NoLine, "longer e 012345678")
        self.refused(desk, NoLine, "longer e 0")
        self.refused(desk, NoLine, "longer e 102345678")

    def test_drawn_lines(self):
        """Lines with words drawn instead of theirs: answered, or refused with an error told, changing nothing."""
        draw = Random(163)
        drawn = ["a", "b", "c", "d", "x", "r", "t", "0", "1", "2", "3", "6", "9", "0,1", "0,1,2", "012", "0123", ""]
        kinds = set()
        for time in range(3000):
            desk = told_desk() if time % 50 == 0 else desk
            words = draw.choice(LINES).split(" ")
            for place in range(1, len(words)):
                words[place] = draw.choice((words[place], draw.choice(drawn)))
            kept = all_of(desk)
            try:
                desk.say(" ".join(words))
            except MateError as error:
                kinds.add(type(error))
                self.assertEqual(all_of(desk), kept)
        self.assertEqual(kinds, {NoLine, NoName, NoTurning, NoRing, NoWay, NoField, NoNumber})


class Own(Case):
    def test_asked_again(self):
        """Lines that do not change squares change no answer, whatever was asked in between."""
        desk = told_desk()
        quiet = [line for line in LINES if line.split(" ")[0] not in ("square", "drop", "exchange", "longer")]
        told = [desk.say(line) for line in quiet]
        kept = all_of(desk)
        for line in ("show x", "turn a zzz", "at 3 99", "field 6", "exchange a r 0 1 0", "longer a 021", "round 0"):
            with self.assertRaises(MateError):
                desk.say(line)
        self.assertEqual([desk.say(line) for line in reversed(quiet)], told[::-1])
        self.assertEqual(all_of(desk), kept)
        self.assertEqual([told_desk().say(line) for line in quiet], told)

    def test_changes_of_one_name_alone(self):
        desk = desk_with({"one": round_square(3), "other": round_square(3)})
        desk.say("exchange one r 0 1 0,1,2")
        self.told(desk, "show other", "012 120 201")
        desk.say("longer other 012")
        self.told(desk, "show one", "120 012 201")
        desk.say("drop one")
        self.told(desk, "show other", text_of(prolonged(round_square(3), [0, 1, 2])))
