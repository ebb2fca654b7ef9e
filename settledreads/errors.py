"""All errors of the package: each keeps the one value that it is made with."""


class SettledError(ValueError):
    """What all errors have in common, but those of something missing."""

    def __init__(self, value):
        self.value = value


class Missing(KeyError):
    """What is asked for by a key, and is not there."""

    def __init__(self, value):
        self.value = value


class NoKey(Missing):
    """What is no key, or none that is there."""


class BadText(SettledError):
    """A text that cannot be read, with the number of the line, or -1 for no string."""


class BadPairs(SettledError):
    """What is no ascending tuple of keys with worths, or no tuple of worths of all keys."""


class Parted(SettledError):
    """Two views have unlike worths of this key."""


class OtherSheet(SettledError):
    """What is no view of an equal sheet."""


class BadWorth(SettledError):
    """What is no worth of the key."""


class BadEdition(SettledError):
    """What is no edition."""


class Broken(SettledError):
    """The rule with this number is broken."""


class BadFirsts(SettledError):
    """What does not tell which edition each kept part keeps at first."""


class BadStory(SettledError):
    """The event with this number cannot come in a story."""


class NoPart(SettledError):
    """What is no part that can be meant."""


class BadManner(SettledError):
    """What is no manner that can be meant."""


class Unlike(SettledError):
    """A plan that has not the same parts."""


class BadWays(SettledError):
    """What does not tell one way for each part."""


class BadRun(SettledError):
    """The event with this number cannot come in a run."""


class TooMany(SettledError):
    """More standings than this come."""


class BadOffers(SettledError):
    """What is no tuple of offers."""


class BadParts(SettledError):
    """What is no tuple of parts."""


class BadEditions(SettledError):
    """What is no tuple of editions."""


class BadKept(SettledError):
    """What does not tell which edition each kept part keeps."""


class BadPrices(SettledError):
    """What does not tell the prices."""


class BadDeeds(SettledError):
    """The deed with this number cannot be done."""


class Busy(SettledError):
    """What is in use still, so that this cannot be done."""


class Unkept(SettledError):
    """A work of this part would not keep the manner."""


class NoWork(SettledError):
    """What is no number of a work."""


class Over(SettledError):
    """What is over already."""


class BadStep(SettledError):
    """A step that cannot come."""


class Risky(SettledError):
    """The work with this number may yet break the manner."""


class Waits(SettledError):
    """A reading that waits for one that it asked."""


class NothingToUndo(SettledError):
    """There is no order that can be taken back."""


class NothingToRedo(SettledError):
    """There is no order that can be done again."""


class BadLine(SettledError):
    """What is no line of a desk."""
