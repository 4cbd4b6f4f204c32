"""The refusals of the program, one class for each."""


# One base for all, so that an asker can take any refusal by one name.
class OftenError(ValueError):
    pass


class NoDay(OftenError):
    pass


class NoLeast(OftenError):
    pass


class NoText(OftenError):
    pass


class NoLine(OftenError):
    pass


class NoThings(OftenError):
    pass


class NoRoom(OftenError):
    pass
