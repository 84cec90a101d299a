"""The errors of the package: SignError and the classes directly under it."""


class SignError(ValueError):
    """Stands above all errors of the package."""


class InvalidHouse(SignError):
    """The value is no house."""


class InvalidCondition(SignError):
    """The value is no condition of the house."""


class InvalidConditions(SignError):
    """The value is no list of conditions of the house."""


class InvalidRun(SignError):
    """The value is no run of the house."""


class InvalidKind(SignError):
    """The value is not the number of a kind of the house."""


class InvalidPlace(SignError):
    """The value is no place of the kind."""


class InvalidCounter(SignError):
    """The value is not the number of a counter of the house."""


class InvalidMends(SignError):
    """The value is no list of mends of the house."""


class InvalidWork(SignError):
    """The value is not the number of a work."""


class InvalidStep(SignError):
    """The value is no step that the work can do."""


class InvalidEvents(SignError):
    """The value is no list of events that can happen."""


class InvalidNumber(SignError):
    """The value is no integer within its bounds."""


class Crowded(SignError):
    """The condition looks at too many shared things."""


class OtherHouse(SignError):
    """The signs stand on unlike houses."""


class Full(SignError):
    """No further work may begin."""


class NothingToUndo(SignError):
    """There is no event to take back."""


class InvalidCommand(SignError):
    """The value is no command."""


class InvalidText(SignError):
    """The word with the number place cannot stand there, or is missing."""

    def __init__(self, place):
        # Python makes a copy of an error from its message, so this is the place alone.
        SignError.__init__(self, str(place))
        self.place = place
