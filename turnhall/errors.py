"""The refusals of a hall."""


# Any refusal: who doesn't care which one it is takes this one.
class HallError(ValueError):
    pass


# There is no deed with the number that was handed in.
class NoDeed(HallError):
    pass


# The deed waits or is at its end, and so can't do what it is asked for.
class NotGoing(HallError):
    pass
