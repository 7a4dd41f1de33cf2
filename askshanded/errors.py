"""The errors of the package: one class below AsksError for each kind of failure."""


class AsksError(ValueError):
    """Any failure that the package names."""


class BadMachine(AsksError):
    """A machine is given a `part` that it cannot have: its "size", a "mark" or a "step"."""

    def __init__(self, part):
        super().__init__(f"no machine has this {part}")
        self.part = part


class BadState(AsksError):
    """What is given as a state, or as a row of states, is none."""

    def __init__(self, state):
        super().__init__(f"no such state: {state}")
        self.state = state


class TooLarge(AsksError):
    """A `size` is above its limit."""

    def __init__(self, size):
        super().__init__(f"too large: {size}")
        self.size = size


class NoStep(AsksError):
    """No step leads with the `ask` to the `end`."""

    def __init__(self, ask, end):
        super().__init__(f"no step with {ask} to {end}")
        self.ask = ask
        self.end = end


class BadNumber(AsksError):
    """The lot has no service with this `number`."""

    def __init__(self, number):
        super().__init__(f"no service has the number {number}")
        self.number = number


class SeveralEnds(AsksError):
    """The service with this `number` has several ends for one state and ask."""

    def __init__(self, number):
        super().__init__(f"service {number} has several ends for one state and ask")
        self.number = number


class BadCount(AsksError):
    """A `count` is out of its range."""

    def __init__(self, count):
        super().__init__(f"out of range: {count}")
        self.count = count


class BadStanding(AsksError):
    """What is given as a `standing` is none here."""

    def __init__(self, standing):
        super().__init__(f"no such standing: {standing}")
        self.standing = standing


class NoAsk(AsksError):
    """The client cannot tell this `step`."""

    def __init__(self, step):
        super().__init__(f"the client cannot tell {step}")
        self.step = step


class ChosenWrong(AsksError):
    """The service with this `number` does not take the ask that it is handed."""

    def __init__(self, number):
        super().__init__(f"service {number} does not take the ask")
        self.number = number


class Refused(AsksError):
    """The dealer fails at this `standing` for this `step`."""

    def __init__(self, standing, step):
        super().__init__(f"the dealer fails at {standing} for {step}")
        self.standing = standing
        self.step = step
