"""The errors of the package, all of them straight under RankError."""


class RankError(ValueError):
    """What all errors of the package are."""


class BadField(RankError):
    """No field has this prime and this modulus."""

    def __init__(self, what):
        self.what = what


class BadThing(RankError):
    """An item is no thing of the field, or the things are no sequence."""

    def __init__(self, index):
        self.index = index


class ZeroThing(RankError):
    """0 has no inverse."""


class BadColumns(RankError):
    """The field has no words of so many columns."""


class BadWord(RankError):
    """A word is refused, for one of its items or as a whole."""

    def __init__(self, index):
        self.index = index


class BadTable(RankError):
    """A table is refused."""


class BadRow(RankError):
    """A row among rows is refused, or the rows are no sequence."""

    def __init__(self, index):
        self.index = index


class Unlike(RankError):
    """Two words or lots are of unlike kinds."""


class BadText(RankError):
    """A line of a text is not of its form."""

    def __init__(self, line):
        self.line = line


class BadPoly(RankError):
    """A poly is refused, for one of its terms or as a whole."""

    def __init__(self, index):
        self.index = index


class NoDivisor(RankError):
    """Nothing is divided by the poly without terms."""


class BadPoints(RankError):
    """Points are refused, for one of them or as a whole."""

    def __init__(self, index):
        self.index = index


class NotApart(RankError):
    """A point is a sum of multiples of those before it."""

    def __init__(self, index):
        self.index = index


class NotInvertible(RankError):
    """The map of a poly leads unlike things to one thing."""


class BadLot(RankError):
    """A lot is refused."""

    def __init__(self, what):
        self.what = what


class BadDistance(RankError):
    """No lot of these columns has this distance."""


class NotMet(RankError):
    """A lot has fewer members than the bound for its distance."""


class BadHead(RankError):
    """A head is refused."""


class BadClosed(RankError):
    """A closed lot is refused."""

    def __init__(self, what):
        self.what = what


class TooMany(RankError):
    """There are too many members or words to go through."""

    def __init__(self, size):
        self.size = size


class BadTerms(RankError):
    """No poly lot of these points has so many terms."""


class NotMember(RankError):
    """A word is no member of the lot."""


class BadSizes(RankError):
    """A number that counts are calculated from is refused."""

    def __init__(self, what):
        self.what = what


class BadCounts(RankError):
    """Counts are refused."""

    def __init__(self, what):
        self.what = what


class NoLot(RankError):
    """No lot has these counts."""

    def __init__(self, rank):
        self.rank = rank


class BadErrors(RankError):
    """A number of errors is refused."""


class BadLoss(RankError):
    """A loss is refused."""

    def __init__(self, what):
        self.what = what


class NoClash(RankError):
    """A clash is asked for with numbers that do not fit."""


class BadCells(RankError):
    """A cell or a deed of a store is refused, or there is no sequence of them."""

    def __init__(self, index):
        self.index = index


class BadLane(RankError):
    """Told lanes are refused."""

    def __init__(self, what):
        self.what = what


class TooSpoilt(RankError):
    """So many lanes of a store are spoilt that it cannot be mended."""

    def __init__(self, lanes):
        self.lanes = lanes


class BadComing(RankError):
    """The number of coming packets is refused."""


class BadDeed(RankError):
    """A deed of a net is refused, or all of its deeds."""

    def __init__(self, index, what):
        self.index = index
        self.what = what


class BadRows(RankError):
    """A packet among packets is refused, or the packets are no sequence."""

    def __init__(self, index):
        self.index = index


class NotBehind(RankError):
    """A net does not fit behind another one."""


class NoColumn(RankError):
    """There is no such column, or no room for so many."""


class NotClosedByThings(RankError):
    """A closed lot does not hold all its members times things."""


class BadNumber(RankError):
    """A number is refused."""


class BadEdit(RankError):
    """An edit is refused."""

    def __init__(self, index, what):
        self.index = index
        self.what = what


class BadGoal(RankError):
    """A goal is refused."""

    def __init__(self, index):
        self.index = index


class Held(RankError):
    """A poly that is held has more terms than an edit leaves."""

    def __init__(self, index):
        self.index = index


class NothingDone(RankError):
    """There is nothing to take back."""
