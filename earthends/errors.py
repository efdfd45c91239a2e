"""The refusals: each stands right under EarthError, so that none is caught as another."""


class EarthError(ValueError):
    """Any refusal."""


class NoNumber(EarthError):
    """What should be a number, or a fraction, is none."""


class NoCable(EarthError):
    """What should be a cable is none."""


class NoDrag(EarthError):
    """What should be a drag of a cable, from 0 to all, is none."""


class NoText(EarthError):
    """What should be the text of a cable is none; `row` is the first row amiss, from 0."""

    def __init__(self, row):
        super().__init__(f"row {row} is not that of a cable")
        self.row = row


class NoLeaks(EarthError):
    """What should be leaks of a cable are none."""


class NoStretch(EarthError):
    """What should be a stretch is none."""


class NoWord(EarthError):
    """What should be the word of a measure is none."""


class NoReading(EarthError):
    """What should be a reading is none."""


class NoPlace(EarthError):
    """What should be a place is none."""


class NoDay(EarthError):
    """What should be a day is none."""


class NoPair(EarthError):
    """A day that should be of two leaks is not."""


class NoSplice(EarthError):
    """What should be a splice of a cable is none."""


class NoDays(EarthError):
    """What should be days are none."""


class NoPlaces(EarthError):
    """What should be places of a cable are none."""


class NoLength(EarthError):
    """What should be a length of a cable is none."""


class NoDeed(EarthError):
    """What is asked cannot be done now."""


class NoBack(EarthError):
    """There is nothing to take back."""


class NoRow(EarthError):
    """What should be a row of the desk is none."""
