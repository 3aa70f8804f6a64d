"""All errors that the package raises."""


class StoreError(ValueError):
    """The base class of all errors of the package."""


class InvalidStore(StoreError):
    """A parameter of a store is not as it has to be."""

    def __init__(self, part):
        super().__init__(f"these {part} cannot be those of a store")
        self.part = part


class UnknownPlace(StoreError):
    """The store has no place of this number."""


class UnknownDoor(StoreError):
    """The store has no door of this number."""


class UnknownCrate(StoreError):
    """The store has no crate of this name."""


class InvalidLayout(StoreError):
    """This is no layout of the store."""


class InvalidDeed(StoreError):
    """This is no deed in the store."""


class InvalidLog(StoreError):
    """An item of a log is neither a deed nor a sighting."""

    def __init__(self, index):
        super().__init__(f"item {index} of the log is neither a deed nor a sighting")
        self.index = index


class NoLayout(StoreError):
    """No layout is possible."""


class InvalidRow(StoreError):
    """This is no row of different doors."""


class TooMany(StoreError):
    """More layouts are possible than can be looked at."""


class InvalidNames(StoreError):
    """These are not different crates of the store."""


class InvalidPairs(StoreError):
    """An item of the pairs is not a pair of different crates."""

    def __init__(self, index):
        super().__init__(f"item {index} is not a pair of different crates")
        self.index = index


class InvalidHabits(StoreError):
    """These are no habits."""


class InvalidNumber(StoreError):
    """A number is not in its range."""


class InvalidHands(StoreError):
    """A hand has no word as its name, or no habits."""

    def __init__(self, name):
        super().__init__(f"there is no such hand as {name}")
        self.name = name


class InvalidDay(StoreError):
    """An hour of a day is wrong, superfluous or missing."""

    def __init__(self, index):
        super().__init__(f"hour {index} of the day is wrong")
        self.index = index


class InvalidOpenings(StoreError):
    """An opening is no door, or superfluous."""

    def __init__(self, index):
        super().__init__(f"opening {index} is wrong")
        self.index = index


class InvalidRows(StoreError):
    """A row of doors is wrong, superfluous or missing."""

    def __init__(self, index):
        super().__init__(f"row {index} of doors is wrong")
        self.index = index


class InvalidPlan(StoreError):
    """An item of a plan is wrong or superfluous."""

    def __init__(self, index):
        super().__init__(f"item {index} of the plan is wrong")
        self.index = index


class TakenPlace(StoreError):
    """A crate lies in this place."""


class InvalidName(StoreError):
    """This name is no word."""


class UnknownKept(StoreError):
    """Nothing is kept under this name."""


class InvalidOperation(StoreError):
    """An item of a list of operations is none."""

    def __init__(self, index):
        super().__init__(f"item {index} is no operation")
        self.index = index


class InvalidSight(StoreError):
    """This is nothing that a keeper can see."""


class InvalidText(StoreError):
    """A word of the text of a store is wrong, superfluous or missing."""

    def __init__(self, row, word):
        super().__init__(f"word {word} of row {row} of the text is wrong")
        self.row = row
        self.word = word


class DecodeError(StoreError):
    """An item of the code of a store is wrong, superfluous or missing."""

    def __init__(self, offset):
        super().__init__(f"item {offset} of the code is wrong")
        self.offset = offset


class ScriptError(StoreError):
    """A row of a script is wrong, superfluous or missing."""

    def __init__(self, row):
        super().__init__(f"row {row} of the script is wrong")
        self.row = row


class ExecutionFailed(StoreError):
    """A row of a script cannot be executed."""

    def __init__(self, row):
        super().__init__(f"row {row} of the script cannot be executed")
        self.row = row


class TooLong(StoreError):
    """A script has too many steps."""
