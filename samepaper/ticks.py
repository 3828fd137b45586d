"""What all runners share: a bound of ticks, and an outcome once there is one."""


class Bounded:
    """A run within a bound of ticks."""

    def __init__(self, bound):
        self.ticks = bound
        self.outcome = None

    def has_tick(self):
        """Takes a tick, or runs dry."""
        if self.ticks == 0:
            self.outcome = ("dry",)
            return False
        self.ticks -= 1
        return True
