"""All errors of the program, each of which keeps the value that is wrong."""


class WaitError(ValueError):
    """What all errors of the program are; `value` is what is wrong."""

    def __init__(self, value):
        self.value = value


class InvalidLetter(WaitError):
    """A text that is no letter, or no text of letters, where one is asked for."""


class InvalidKind(WaitError):
    """The first part of a kind that is none."""


class InvalidRow(WaitError):
    """A row without kinds, or a told word that is none."""


class NotSingle(WaitError):
    """A kind in which a "with" stands, where single kinds are asked for."""


class InvalidReading(WaitError):
    """A part of a reading that is none, or that shows nothing."""


class InvalidPaper(WaitError):
    """A part of a paper that shows nothing."""


class InvalidPlace(WaitError):
    """A place that is not there."""


class InvalidNumber(WaitError):
    """A number outside its limits."""


class InvalidLinks(WaitError):
    """Links that are not in order, or not of all places of the line."""


class InvalidTerm(WaitError):
    """A part of a term that is none."""


class InvalidSizes(WaitError):
    """Sizes that are not in order, or that lack a letter."""


class InvalidThing(WaitError):
    """A thing that is none of its kind."""


class InvalidSpan(WaitError):
    """Products that are no table, or that hang on how they are grouped."""


class InvalidLot(WaitError):
    """A list of things that is no lot."""


class InvalidChain(WaitError):
    """A step of a chain that does not go on from the kind reached so far."""


class NotLeading(WaitError):
    """A kind that does not lead where it must, or is not led to."""


class NotFlat(WaitError):
    """A kind that is not flat."""


class InvalidWord(WaitError):
    """A text that is no word, or a word that stood ahead."""


class UnknownWord(WaitError):
    """A word that is not in the book."""


class InvalidBook(WaitError):
    """A word whose kinds in a book are not as they must be."""


class InvalidTree(WaitError):
    """A part of a tree that is none."""


class InvalidName(WaitError):
    """A text that is no name, or a name that stood ahead."""


class DoubleName(WaitError):
    """A name that would stand twice."""


class UnknownName(WaitError):
    """A name that there is not."""


class DoubleKind(WaitError):
    """A name whose kind the word has."""


class MissingKind(WaitError):
    """A name whose kind the word has not."""


class NothingToUndo(WaitError):
    """No call is left that could be taken back."""


class Unreadable(WaitError):
    """A text that nothing has."""
