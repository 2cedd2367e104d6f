"""The refusals of the program, each straight under OrderError."""


class OrderError(ValueError):
    """What every refusal stands under."""


class NoText(OrderError):
    """A text is not one that the program writes."""


class NoRow(OrderError):
    """A row can't be answered; row is its number, from 0."""

    def __init__(self, row):
        self.row = row
