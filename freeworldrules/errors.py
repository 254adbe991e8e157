"""The errors of the package; each one keeps what it is made with."""


class RuleError(ValueError):
    """All errors of the package stand directly under this one."""


class BadLetter(RuleError):
    """A key of letters that is no name, or whose number of parts is none."""

    def __init__(self, key):
        self.key = key


class BadFixed(RuleError):
    """The thing at this index of the fixed letters is no such letter."""

    def __init__(self, index):
        self.index = index


class BadCommuting(RuleError):
    """The thing at this index of the commuting letters is no such letter."""

    def __init__(self, index):
        self.index = index


class BadFact(RuleError):
    """The thing at this index of the facts is no fact."""

    def __init__(self, index):
        self.index = index


class BadTerm(RuleError):
    """The part at this path is no term."""

    def __init__(self, path):
        self.path = path


class NoPart(RuleError):
    """This is no path of a part."""

    def __init__(self, path):
        self.path = path


class BadPermit(RuleError):
    """The thing at this index of the rows is no permission."""

    def __init__(self, index):
        self.index = index


class UnlikeGrounds(RuleError):
    """Two things that are held together have unlike grounds."""


class NoRow(RuleError):
    """This is no row of the permits, or one that they always have."""

    def __init__(self, row):
        self.row = row


class BadBits(RuleError):
    """The thing at this index of the bits is neither 0 nor 1."""

    def __init__(self, index):
        self.index = index


class BadRelation(RuleError):
    """This is no word of a relation."""

    def __init__(self, relation):
        self.relation = relation


class BadPlayer(RuleError):
    """A key of players that is no letter for one, or whose value is no player."""

    def __init__(self, key):
        self.key = key


class Clash(RuleError):
    """This name of a player stands where it must not."""

    def __init__(self, name):
        self.name = name


class BadRow(RuleError):
    """The thing at this index of a row of letters cannot stand there."""

    def __init__(self, index):
        self.index = index


class BadTold(RuleError):
    """This is no letter by which values can be told."""

    def __init__(self, told):
        self.told = told


class NoSuch(RuleError):
    """There is no order with this number."""

    def __init__(self, number):
        self.number = number


class UnlikeRows(RuleError):
    """Two rows have not the same letters."""


class BadName(RuleError):
    """This is no name."""

    def __init__(self, name):
        self.name = name


class Taken(RuleError):
    """A rule of the book has this name."""

    def __init__(self, name):
        self.name = name


class Broken(RuleError):
    """The terms of a rule part by these bits."""

    def __init__(self, bits):
        self.bits = bits


class NoRule(RuleError):
    """No rule of the book has this name."""

    def __init__(self, name):
        self.name = name


class BadNumber(RuleError):
    """This is no integer from 1 on."""

    def __init__(self, number):
        self.number = number


class Held(RuleError):
    """A rule is watched under this name."""

    def __init__(self, name):
        self.name = name


class NotHeld(RuleError):
    """No rule is watched under this name."""

    def __init__(self, name):
        self.name = name


class NoDeed(RuleError):
    """There is no deed to take back or to do again."""


class BadText(RuleError):
    """No text of a term goes on with the sign at this place."""

    def __init__(self, place):
        self.place = place


class BadEvent(RuleError):
    """This is no event of the term."""

    def __init__(self, event):
        self.event = event


class BadMark(RuleError):
    """The thing at this index is no mark, or stood before."""

    def __init__(self, index):
        self.index = index


class BadFunction(RuleError):
    """The thing at this index of the functions is no function."""

    def __init__(self, index):
        self.index = index


class NoFunction(RuleError):
    """No function of the library has this name."""

    def __init__(self, name):
        self.name = name


class UnlikeLibraries(RuleError):
    """Two libraries have unlike functions."""


class BadRows(RuleError):
    """The thing at this index of several rows cannot stand there."""

    def __init__(self, index):
        self.index = index


class BadWeave(RuleError):
    """The thing at this index of a weave cannot stand there."""

    def __init__(self, index):
        self.index = index
