"""The refusals of the program."""


class MateError(ValueError):
    """Any refusal."""


class NoSquare(MateError):
    """A list that is no square; place tells where it fails."""

    def __init__(self, place):
        MateError.__init__(self, f"no square, by place {place}")
        self.place = place


class NoTurning(MateError):
    """A text that is none of the six turnings."""


class NoOrder(MateError):
    """A renaming with a list that is no order of the size."""


class NoField(MateError):
    """A number of which there is no field."""


class NoRing(MateError):
    """A sort, two numbers and a list that tell no exchange."""


class NoWay(MateError):
    """A list that is no way of the square."""


class NoNumber(MateError):
    """A number for which nothing stands."""


class NoText(MateError):
    """A text that writes nothing."""


class NoLine(MateError):
    """A line that the desk does not know."""


class NoName(MateError):
    """A name by which no square stands."""
