"""The errors of the program: one class for each kind of refusal."""


class HornError(ValueError):
    """The base class of all errors of this package."""


class BadName(HornError):
    """A string that is not a name, where a name is asked for."""

    def __init__(self, text):
        super().__init__(f"not a name: {text!r}")
        self.text = text


class BadLiteral(HornError):
    """A string that is not a literal, where a literal is asked for."""

    def __init__(self, text):
        super().__init__(f"not a literal: {text!r}")
        self.text = text


class BadShare(HornError):
    """A text that no share writes."""

    def __init__(self, text):
        super().__init__(f"not the text of a share: {text!r}")
        self.text = text


class BadText(HornError):
    """A text whose line of this number cannot be read."""

    def __init__(self, line):
        super().__init__(f"line {line} cannot be read")
        self.line = line


class BothSigns(HornError):
    """A name that stands in both signs."""

    def __init__(self, name):
        super().__init__(f"{name} stands in both signs")
        self.name = name


class TooMany(HornError):
    """More than this many of what is limited."""

    def __init__(self, limit):
        super().__init__(f"there may be at most {limit}")
        self.limit = limit


class NoClause(HornError):
    """A number at which the book has no clause."""

    def __init__(self, number):
        super().__init__(f"the book has no clause {number}")
        self.number = number


class BadNumber(HornError):
    """A number that no clause can have here."""

    def __init__(self, number):
        super().__init__(f"not a number for a clause here: {number}")
        self.number = number


class BadCount(HornError):
    """A count, or a factor, that is out of bounds."""

    def __init__(self, count):
        super().__init__(f"out of bounds: {count}")
        self.count = count


class NoName(HornError):
    """A name that is not among the names of the object."""

    def __init__(self, name):
        super().__init__(f"{name} is not among the names")
        self.name = name


class SharedName(HornError):
    """A name that two objects share and must not."""

    def __init__(self, name):
        super().__init__(f"both have the name {name}")
        self.name = name


class OtherNames(HornError):
    """Two objects do not have the same names."""

    def __init__(self):
        super().__init__("the names are not the same")


class NoTurning(HornError):
    """There is no such turning."""

    def __init__(self):
        super().__init__("there is no such turning")


class NoPlace(HornError):
    """A place at which nothing stands."""

    def __init__(self, at):
        super().__init__(f"nothing stands at place {at}")
        self.at = at


class ZeroBelow(HornError):
    """A division by zero."""

    def __init__(self):
        super().__init__("zero stands below")


class BadWeight(HornError):
    """A share that is below 0 or above 1."""

    def __init__(self, share):
        super().__init__(f"not a weight from 0 to 1: {share}")
        self.share = share


class HalfLeft(HornError):
    """A name whose share is neither 0 nor 1."""

    def __init__(self, name):
        super().__init__(f"the share of {name} is neither 0 nor 1")
        self.name = name


class NotPlain(HornError):
    """The book is not plain, as this ring shows."""

    def __init__(self, ring):
        super().__init__("the book is not plain")
        self.ring = ring


class NotSuited(HornError):
    """The number of a clause that the turning does not suit."""

    def __init__(self, number):
        super().__init__(f"the turning does not suit clause {number}")
        self.number = number


class NotHeld(HornError):
    """A literal that is not held."""

    def __init__(self, literal):
        super().__init__(f"{literal} is not held")
        self.literal = literal


class NoModel(HornError):
    """There is no model, as this refutation shows."""

    def __init__(self, paper):
        super().__init__("there is no model")
        self.paper = paper


class NoFact(HornError):
    """A literal that is not a fact."""

    def __init__(self, literal):
        super().__init__(f"{literal} is not a fact")
        self.literal = literal


class EditRefused(HornError):
    """The edit at this place was refused."""

    def __init__(self, at):
        super().__init__(f"the edit at place {at} was refused")
        self.at = at


class NothingBack(HornError):
    """There is no step to take back."""

    def __init__(self):
        super().__init__("there is no step to take back")


class NotClosed(HornError):
    """The family lacks the meet of this pair."""

    def __init__(self, pair):
        super().__init__("the family is not closed")
        self.pair = pair


class NothingAhead(HornError):
    """There is no step to make again."""

    def __init__(self):
        super().__init__("there is no step to make again")
