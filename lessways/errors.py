"""The errors of the package.

Each one keeps what it was made with under the names of its parameters. The words are the same for
all objects: an error can be made of any of them, and not every object can be put into words.
"""


class LessError(ValueError):
    """What all errors of the package are."""


class NoShare(LessError):
    """A number was divided by 0."""

    def __init__(self, top):
        super().__init__("nothing is divided by 0")
        self.top = top


class NoUnknown(LessError):
    """There is no unknown of this number here."""

    def __init__(self, k):
        super().__init__("there is no such unknown here")
        self.k = k


class NotStraight(LessError):
    """A term was multiplied by a term."""

    def __init__(self, left, right):
        super().__init__("a term times a term is no term")
        self.left = left
        self.right = right


class NotRow(LessError):
    """A row was needed, and this is none."""

    def __init__(self, thing):
        super().__init__("this is no row")
        self.thing = thing


class Nothing(LessError):
    """These rows hold nowhere together."""

    def __init__(self, rows):
        super().__init__("these rows hold nowhere together")
        self.rows = rows


class NotCounted(LessError):
    """The given rows do not all hold at this point."""

    def __init__(self, point):
        super().__init__("this point does not count")
        self.point = point


class BadCount(LessError):
    """A count is not what it has to be."""

    def __init__(self, value):
        super().__init__("this count is not what it has to be")
        self.value = value


class BadLimit(LessError):
    """A limit of an asker is out of its bounds."""

    def __init__(self, value):
        super().__init__("this limit is out of its bounds")
        self.value = value


class TooDeep(LessError):
    """A run has more recorded asks than its asker allows."""

    def __init__(self, path):
        super().__init__("this run asks too often")
        self.path = path


class TooMany(LessError):
    """A code has more runs than its asker allows."""

    def __init__(self, path):
        super().__init__("this code has too many runs")
        self.path = path


class Wavers(LessError):
    """A code went another way with the same answers."""

    def __init__(self, path):
        super().__init__("this code does not repeat its asks")
        self.path = path


class Stale(LessError):
    """A row was asked behind the run of its ask."""

    def __init__(self, row):
        super().__init__("the run of this ask is over")
        self.row = row


class NotTruth(LessError):
    """A run returned neither True nor False."""

    def __init__(self, path):
        super().__init__("this run returned no truth")
        self.path = path


class NotNumber(LessError):
    """A run returned neither a number nor a term."""

    def __init__(self, path):
        super().__init__("this run returned no number")
        self.path = path


class HasGiven(LessError):
    """An asker without given rows was needed."""

    def __init__(self, rows):
        super().__init__("this asker has given rows")
        self.rows = rows


class UnlikeCounts(LessError):
    """Two things have unlike numbers of unknowns."""

    def __init__(self, one, other):
        super().__init__("these have unlike numbers of unknowns")
        self.one = one
        self.other = other
