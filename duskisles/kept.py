"""What is put aside at the beginning of a trial."""


class Kept:
    """What an object was at the beginning of a trial, and what was put aside ahead of that."""

    def __init__(self, now, below):
        self.now = now
        self.below = below
