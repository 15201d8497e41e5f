"""The kinds of refusal.

RideError, Cant and Lack are never raised themselves: each names what the
kinds straight under it have in common. The texts are fixed, since a field
may hold anything at all, also what has no short text.
"""


class RideError(ValueError):
    """What was handed in is not what is wanted there."""


class BadHouse(RideError):
    """No house; place tells the first part that is not so."""

    def __init__(self, place=None):
        RideError.__init__(self, "this is no house")
        self.place = place


class BadErrand(RideError):
    """No errand of that ring."""


class BadNumber(RideError):
    """No number that is wanted there; about is the very thing handed in."""

    def __init__(self, about):
        RideError.__init__(self, "this is no number that is wanted here")
        self.about = about


class BadRide(RideError):
    """No ride; number tells the first move that can't be."""

    def __init__(self, number=None):
        RideError.__init__(self, "this is no ride")
        self.number = number


class BadLoose(RideError):
    """No loose ride; number tells the first move that can't be."""

    def __init__(self, number=None):
        RideError.__init__(self, "this is no loose ride")
        self.number = number


class BadPaper(RideError):
    """No paper; about tells which part of it is not so."""

    def __init__(self, about):
        RideError.__init__(self, "this is no paper")
        self.about = about


class BadExchange(RideError):
    """No exchange of that ride."""


class BadRows(RideError):
    """No square of whole numbers."""


class BadText(RideError):
    """A text that can't be read; row and word tell where, both from 1."""

    def __init__(self, row, word):
        RideError.__init__(self, "this text can't be read")
        self.row = row
        self.word = word


class BadDeed(RideError):
    """Neither a bare step nor a number of an errand."""


class Cant(RuntimeError):
    """What was handed in is good, but it can't be done."""


class TooFew(Cant):
    """Fewer than can be; least is how many there must be."""

    def __init__(self, least):
        Cant.__init__(self, "these are too few")
        self.least = least


class TooMany(Cant):
    """More than can be; most is how many there may be."""

    def __init__(self, most):
        Cant.__init__(self, "these are too many")
        self.most = most


class Unlike(Cant):
    """Two rides of unlike rounds; rounds are the second one's."""

    def __init__(self, rounds):
        Cant.__init__(self, "these rides have unlike rounds")
        self.rounds = rounds


class NotOpen(Cant):
    """No ride begins so."""


class Lack(LookupError):
    """What is named is not there."""


class NoErrand(Lack):
    """No errand of that number waits."""

    def __init__(self, number):
        Lack.__init__(self, "no errand of this number waits")
        self.number = number


class Gone(Lack):
    """The errand waits elsewhere."""
