"""The errors of voicewright: all stand under MusicFault, a ValueError."""


class MusicFault(ValueError):
    """What voicewright refuses."""


class BadNote(MusicFault):
    """A note that can't be one."""


class BadTime(MusicFault):
    """A length, meter or tempo that can't be."""


class BadLine(MusicFault):
    """A line that breaks what it is to keep, or has another length."""


class NoLine(MusicFault):
    """Nothing keeps all that was asked."""


class BadPaper(MusicFault):
    """A paper that doesn't show what it is to show."""


class BadSize(MusicFault):
    """A count or number that is out of bounds."""


class BadText(MusicFault):
    """A text that isn't one of the language."""


class BadStore(MusicFault):
    """Kept words that aren't whole."""


class NoSuch(MusicFault):
    """What isn't there."""
