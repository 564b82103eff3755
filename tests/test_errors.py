import unittest

from squaremates import errors
from squaremates.errors import MateError, NoSquare

PLAIN = ["NoTurning", "NoOrder", "NoField", "NoRing", "NoWay", "NoNumber", "NoText", "NoLine", "NoName"]


class Errors(unittest.TestCase):
    def test_family(self):
        self.assertEqual(MateError.__bases__, (ValueError,))
        for name in ["NoSquare", *PLAIN]:
            self.assertEqual(getattr(errors, name).__bases__, (MateError,), name)

    def test_plain_ones_made_with_nothing_or_a_text(self):
        for name in PLAIN:
            kind = getattr(errors, name)
            for made in (kind(), kind("why"), kind("")):
                self.assertIsInstance(made, MateError)
                with self.assertRaises(kind):
                    raise made

    def test_no_square_has_its_place(self):
        for place in (-1, 0, 4, 17, 10 ** 39):
            self.assertEqual(NoSquare(place).place, place)
        with self.assertRaises(ValueError) as caught:
            raise NoSquare(3)
        self.assertEqual(caught.exception.place, 3)
        self.assertIsInstance(str(caught.exception), str)
