"""The errors of the program."""


class StoreError(ValueError):
    """The base of all errors of the program."""


class InvalidCatalogue(StoreError):
    """The catalogue is empty or has an invalid entry; the value is its index."""

    def __init__(self, value):
        StoreError.__init__(self, f"invalid catalogue at entry {value}")
        self.value = value


class InvalidStock(StoreError):
    """A name is unknown or its number is negative; the value is the name."""

    def __init__(self, value):
        StoreError.__init__(self, f"invalid stock of {value!r}")
        self.value = value


class InvalidSplits(StoreError):
    """A kind cannot have these splits; the value is its name."""

    def __init__(self, value):
        StoreError.__init__(self, f"invalid splits of {value!r}")
        self.value = value


class InvalidStep(StoreError):
    """An entry of a history is not a step; the value is its index."""

    def __init__(self, value):
        StoreError.__init__(self, f"invalid step at entry {value}")
        self.value = value


class InvalidNumber(StoreError):
    """A number is negative; the value is the number."""

    def __init__(self, value):
        StoreError.__init__(self, f"invalid number {value}")
        self.value = value


class TooManySteps(StoreError):
    """Not all steps are possible; the value is what the raising call says."""

    def __init__(self, value):
        StoreError.__init__(self, f"not all steps are possible: {value}")
        self.value = value


class InvalidText(StoreError):
    """A text cannot be read; the value is the text."""

    def __init__(self, value):
        StoreError.__init__(self, f"invalid text {value!r}")
        self.value = value
