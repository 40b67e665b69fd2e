"""The refusals: one class for each kind, each under SpareError alone."""


class SpareError(ValueError):
    """Any refusal."""


class NoCount(SpareError):
    """A count of houses that is none, or counts that are unlike."""


class NoWord(SpareError):
    """A word that is none of those asked for."""


class NoNeed(SpareError):
    """Something is asked for that is not needed."""


class NoTree(SpareError):
    """A list that is no tree to the target."""


class NoLine(SpareError):
    """A line that the desk does not know."""


class NoHouse(SpareError):
    """A number that is no house: the field house."""

    def __init__(self, house):
        super().__init__(f"no house: {house}")
        self.house = house


class NoTie(SpareError):
    """Two houses that have no tie, or can have none, at a place in a list or None."""

    def __init__(self, place):
        super().__init__(f"no tie, at place: {place}")
        self.place = place


class NoWeight(SpareError):
    """A number that is no weight, at a place in a list or None."""

    def __init__(self, place):
        super().__init__(f"no weight, at place: {place}")
        self.place = place


class NotLike(SpareError):
    """A tie whose weights there and back are unlike: the field tie."""

    def __init__(self, tie):
        super().__init__(f"weights unlike there and back: {tie}")
        self.tie = tie


class NoText(SpareError):
    """A word that cannot be read: the field at is its number."""

    def __init__(self, at):
        super().__init__(f"no text, at word: {at}")
        self.at = at


class NoName(SpareError):
    """A name that is none, or by which no net stands: the field name."""

    def __init__(self, name):
        super().__init__(f"no name: {name}")
        self.name = name
