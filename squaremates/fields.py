"""Sums and products in the fields of 2, 3, 4, 5, 7, 8 and 9 numbers."""

from squaremates.errors import NoField

PRIMES = (2, 3, 5, 7)
# For each field of powers of x to the base two: how many figures its numbers have, and the sum of powers,
# written as a number, that is 0 in it (x x + x + 1, and x x x + x + 1).
TWOS = {4: (2, 7), 8: (3, 11)}
NINE = 9


def look_at_field(q):
    """Refuse, with NoField, a number of which there is no field."""
    if q not in PRIMES and q not in TWOS and q != NINE:
        raise NoField("a field has 2, 3, 4, 5, 7, 8 or 9 numbers")


def plus(q, a, b):
    """The sum of two numbers of the field of q."""
    look_at_field(q)
    if q in PRIMES:
        return (a + b) % q
    if q in TWOS:
        return a ^ b
    return (a + b) % 3 + 3 * ((a // 3 + b // 3) % 3)


def times(q, a, b):
    """The product of two numbers of the field of q."""
    look_at_field(q)
    if q in PRIMES:
        return a * b % q
    if q in TWOS:
        return times_by_twos(q, a, b)
    return times_of_nine(a, b)


def times_by_twos(q, a, b):
    """The product in the field of 4 or of 8."""
    figures, zero = TWOS[q]
    product = 0
    for place in range(figures):
        if b >> place & 1:
            product ^= a << place
    # The highest powers go first, since taking one out may put in lower ones.
    for place in reversed(range(figures, 2 * figures - 1)):
        if product >> place & 1:
            product ^= zero << (place - figures)
    return product


def times_of_nine(a, b):
    """The product in the field of 9, where x x is 2."""
    plain = a % 3 * (b % 3) + 2 * (a // 3) * (b // 3)
    by_x = a % 3 * (b // 3) + a // 3 * (b % 3)
    return plain % 3 + 3 * (by_x % 3)
