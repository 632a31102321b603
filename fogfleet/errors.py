"""All errors that the program raises.

Each class stands directly below FleetError, so a caller can catch one kind
of failure by its name, or all of them at once.
"""


class FleetError(ValueError):
    """The base class of all errors that the program raises."""


class InvalidChart(FleetError):
    """A part of a chart is wrong."""

    def __init__(self, part):
        super().__init__(f"wrong part of a chart: {part}")
        self.part = part


class InvalidShip(FleetError):
    """A part of a ship is wrong."""

    def __init__(self, part):
        super().__init__(f"wrong part of a ship: {part}")
        self.part = part


class InvalidLight(FleetError):
    """A part of a light is wrong."""

    def __init__(self, part):
        super().__init__(f"wrong part of a light: {part}")
        self.part = part


class InvalidReport(FleetError):
    """A part of a report is wrong."""

    def __init__(self, part):
        super().__init__(f"wrong part of a report: {part}")
        self.part = part


class InvalidLetter(FleetError):
    """A part of a letter is wrong."""

    def __init__(self, part):
        super().__init__(f"wrong part of a letter: {part}")
        self.part = part


class InvalidSetting(FleetError):
    """A part of a setting is wrong."""

    def __init__(self, part):
        super().__init__(f"wrong part of a setting: {part}")
        self.part = part


class InvalidReceipt(FleetError):
    """A part of a receipt is wrong."""

    def __init__(self, part):
        super().__init__(f"wrong part of a receipt: {part}")
        self.part = part


class NotInPlay(FleetError):
    """The places that a game was asked about do not occur in it."""

    def __init__(self, part):
        super().__init__(f"not in play: {part}")
        self.part = part


class NoDriving(FleetError):
    """No driving of the ship fits."""

    def __init__(self, ship):
        super().__init__(f"no driving of ship {ship} fits")
        self.ship = ship


class NoSuchNumber(FleetError):
    """No driving has the number."""

    def __init__(self, number):
        super().__init__("no driving has this number")
        self.number = number


class DoesNotFit(FleetError):
    """A list of places is no fitting driving."""

    def __init__(self, hour):
        super().__init__(f"the driving does not fit at hour {hour}")
        self.hour = hour


class NoRun(FleetError):
    """No run of the letters has the comings."""

    def __init__(self, agent):
        super().__init__(f"no run has these comings at {agent}")
        self.agent = agent


class NoWorld(FleetError):
    """No world fits the view of the agent."""

    def __init__(self, agent):
        super().__init__(f"no world fits the view of {agent}")
        self.agent = agent


class NoWay(FleetError):
    """No way is deep enough for a leg."""

    def __init__(self, leg):
        super().__init__(f"no way for leg {leg}")
        self.leg = leg


class InvalidOrder(FleetError):
    """An order of a list is wrong."""

    def __init__(self, index):
        super().__init__(f"wrong order at index {index}")
        self.index = index


class InvalidStay(FleetError):
    """A stay of a list is wrong."""

    def __init__(self, index):
        super().__init__(f"wrong stay at index {index}")
        self.index = index


class BadText(FleetError):
    """A line of a text is wrong."""

    def __init__(self, line):
        super().__init__(f"wrong line: {line}")
        self.line = line


class BadClaim(FleetError):
    """A word of a claim is wrong."""

    def __init__(self, word):
        super().__init__(f"wrong word of a claim: {word}")
        self.word = word


class Contradiction(FleetError):
    """A firm report contradicts standing reports."""

    def __init__(self, numbers):
        super().__init__("the report contradicts standing reports")
        self.numbers = list(numbers)


class UnknownEntry(FleetError):
    """No entry stands under the number."""

    def __init__(self, number):
        super().__init__("no entry with this number stands")
        self.number = number


class NothingToUndo(FleetError):
    """No deed can be taken back."""


class NothingToRedo(FleetError):
    """No deed can be done again."""
