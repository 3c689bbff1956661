"""The refusals: errors that keep the very things they are made of."""


class WaitError(ValueError):
    """Any refusal; itself never raised."""


class NoHouse(WaitError):
    """A thing is no HOUSE."""

    def __init__(self, word):
        self.word = word


class NoPaper(WaitError):
    """A thing is no paper of the sort asked for."""

    def __init__(self, word, number):
        self.word = word
        self.number = number


class NoRest(WaitError):
    """What is asked for is not to be had, by this word."""

    def __init__(self, word):
        self.word = word


class TooMany(WaitError):
    """There are more of what the word names than are told."""

    def __init__(self, word):
        self.word = word


class NoComer(WaitError):
    """A WAY has no COMER of this number."""

    def __init__(self, number):
        self.number = number


class NoBeat(WaitError):
    """A WAY has no such BEAT."""

    def __init__(self):
        pass


class NoText(WaitError):
    """A text, or a list of texts, can't be read from this word of this row on."""

    def __init__(self, row, word):
        self.row = row
        self.word = word


class NoRow(WaitError):
    """A desk takes no such row."""

    def __init__(self, row):
        self.row = row
