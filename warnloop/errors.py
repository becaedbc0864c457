"""The refusals: one base, and each other one straight under it."""


class HouseError(ValueError):
    """The base of every refusal of this program."""


class NoPlan(HouseError):
    """No plan that is let by."""


class NoText(HouseError):
    """No text of the form that is asked for."""


class NoStretch(HouseError):
    """No stretch of the plan."""


class NoSpot(HouseError):
    """No spot of a device of the plan."""


class NoOpener(HouseError):
    """No opener of the plan."""


class NoAddress(HouseError):
    """None of the addresses that there are."""


class NoRules(HouseError):
    """No rules that are let by."""


class NoHand(HouseError):
    """Nothing that can be done by hand now."""


class NoPanel(HouseError):
    """No panel of the ring."""


class NoLink(HouseError):
    """No link of the ring."""


class NoLog(HouseError):
    """No log that can be joined."""


class NoDeed(HouseError):
    """No deed that can befall a house."""


class NoRow(HouseError):
    """No row that the desk knows."""
