"""The refusals of the program: each keeps, as its fields, what it was made with."""


class PointError(ValueError):
    """What most refusals stand under."""


class NoText(PointError):
    """A text that isn't written as told; row is the number of its first such line."""

    def __init__(self, row):
        super().__init__("this is no text of such a thing")
        self.row = row


class NoExact(PointError):
    """Numbers that make no Exact."""


class NoLine(PointError):
    """Two points that are one have no line through them."""


class NoRow(PointError):
    """What a Desk is told is no row of its."""


class NoBack(PointError):
    """There is no move to go back."""


class TwoRoots(PointError):
    """Two roots that don't go together, each as (over, under)."""

    def __init__(self, one, other):
        super().__init__("these two roots don't go together")
        self.one = one
        self.other = other


class NotPlain(PointError):
    """The step of this number is a cross, of which nothing is told in general."""

    def __init__(self, number):
        super().__init__("this step is a cross")
        self.number = number


class NeverDone(PointError):
    """The step of this number can be done by no hand."""

    def __init__(self, number):
        super().__init__("this step can never be done")
        self.number = number


class NoDeed(PointError):
    """A thing that has not the form of a deed."""

    def __init__(self, thing):
        super().__init__("this is no deed")
        self.thing = thing


class NoFit(PointError):
    """A thing that doesn't fit the sketch that it is for."""

    def __init__(self, thing):
        super().__init__("this doesn't fit the sketch")
        self.thing = thing


class Taken(PointError):
    """A name that is there already."""

    def __init__(self, name):
        super().__init__("this name is taken")
        self.name = name


class Undone(PointError):
    """Deeds that were all undone, since the one of this number was refused."""

    def __init__(self, number):
        super().__init__("one of these deeds was refused")
        self.number = number


class NoBottom(ZeroDivisionError):
    """Nought is no number to divide by."""


class NoWay(KeyError):
    """A word that is no way to move a Board."""

    def __init__(self, way):
        super().__init__("there is no such way")
        self.way = way


class Missing(KeyError):
    """A name at which nothing is kept."""

    def __init__(self, name):
        super().__init__("nothing is kept at this name")
        self.name = name
