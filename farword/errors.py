"""The errors that the program raises."""


class FarError(ValueError):
    """The base class of all errors of the program."""


class InvalidBook(FarError):
    """The parts break a rule for books."""


class InvalidStanding(FarError):
    """The tuple is no standing of the book."""


class InvalidInput(FarError):
    """Something told is no input or no order of the book."""


class InvalidHistory(FarError):
    """The list is no history."""


class InvalidPaper(FarError):
    """The paper does not show what it has to show."""


class InvalidLetter(FarError):
    """The text or the tuple is no letter."""


class TooLarge(FarError):
    """There would be more to look through than is allowed."""


class NothingToUndo(FarError):
    """No change is left that could be taken back."""


class NothingToRedo(FarError):
    """No change is left that could be restored."""


class UnknownName(FarError):
    """Nothing has this name."""

    def __init__(self, name):
        super().__init__(f"nothing is called so: {name}")
        self.name = name


class NameTaken(FarError):
    """Something has this name already."""

    def __init__(self, name):
        super().__init__(f"the name is taken: {name}")
        self.name = name


class NameInUse(FarError):
    """Another part needs what has this name."""

    def __init__(self, name):
        super().__init__(f"another part needs this name: {name}")
        self.name = name


class InvalidNotation(FarError):
    """The line with this number cannot stand where it stands."""

    def __init__(self, line):
        super().__init__(f"line {line} cannot stand there")
        self.line = line


class Unmendable(FarError):
    """The cell with this number is two or more flips from all words."""

    def __init__(self, place):
        super().__init__(f"cell {place} cannot be mended")
        self.place = place


class UnknownLetter(FarError):
    """No letter with this number is on the road."""

    def __init__(self, number):
        super().__init__(f"no letter {number} is on the road")
        self.number = number


class SideFallen(FarError):
    """The side with this number is down."""

    def __init__(self, side):
        super().__init__(f"side {side} is down")
        self.side = side
