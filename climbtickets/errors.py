"""The exceptions of the package.

Each one gives its base class a fixed message: a message that shows the passed
value would take too long for values with very many parts.
"""


class ClimbticketsError(ValueError):
    """The base class of all exceptions of the package."""


class InvalidTicket(ClimbticketsError):
    def __init__(self, part):
        super().__init__("a ticket has an end that is not a height")
        self.part = part


class BrokenRow(ClimbticketsError):
    def __init__(self, spot):
        super().__init__("a row has a part that does not fit there")
        self.spot = spot


class InvalidProfile(ClimbticketsError):
    def __init__(self, spot=None):
        super().__init__("a profile has an integer for every gap")
        self.spot = spot


class InvalidDesk(ClimbticketsError):
    def __init__(self, spot=None):
        super().__init__("a desk has tickets only, and not too many")
        self.spot = spot


class MissingTicket(ClimbticketsError):
    def __init__(self, value):
        super().__init__("the desk has no such ticket")
        self.value = value


class InvalidNumber(ClimbticketsError):
    def __init__(self, value):
        super().__init__("this number is not possible here")
        self.value = value


class InvalidPlan(ClimbticketsError):
    def __init__(self, part, spot=None):
        super().__init__("these rows are not a plan of the desk")
        self.part = part
        self.spot = spot


class InvalidAnswer(ClimbticketsError):
    def __init__(self, part):
        super().__init__("this answer is not correct")
        self.part = part


class TooFew(ClimbticketsError):
    def __init__(self, reason):
        super().__init__("more rows are needed")
        self.reason = reason


class TooMany(ClimbticketsError):
    def __init__(self, limit):
        super().__init__("there are not so many tickets")
        self.limit = limit


class NoRow(ClimbticketsError):
    def __init__(self, reason):
        super().__init__("there is no such row")
        self.reason = reason


class NoRounds(ClimbticketsError):
    def __init__(self, gap):
        super().__init__("the desk cannot be divided into rounds")
        self.gap = gap


class InvalidTrip(ClimbticketsError):
    def __init__(self, part):
        super().__init__("the parts of a trip do not fit together")
        self.part = part


class InvalidGroup(ClimbticketsError):
    def __init__(self, part, spot=None):
        super().__init__("a group has as many starts as ends, all of them heights")
        self.part = part
        self.spot = spot


class LimitExceeded(ClimbticketsError):
    def __init__(self, limit):
        super().__init__("there are more than the limit allows")
        self.limit = limit


class NothingToUndo(ClimbticketsError):
    def __init__(self):
        super().__init__("there is no change to undo")


class ParseError(ClimbticketsError):
    def __init__(self, line, word):
        super().__init__("this is not the text of a desk")
        self.line = line
        self.word = word
