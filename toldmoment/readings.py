"""Chunks while they are open: keys read row by row amid writing (section 9)."""


class Reading:
    """A chunk that is open: what was read of the keys from low to high."""

    def __init__(self, low, high, moment, steps):
        self._low = low
        self._high = high
        self._opened = moment
        self._steps = steps
        # The key up to which all was read; further rows may still come behind it.
        self._last = low - 1
        self._is_over = False
        self._found = ()

    def read_row(self, state):
        """Reads the rows of the least key that is still to be read; whether there is one now."""
        ahead = [place for _, rows in state for place, _ in rows if self._last < place <= self._high]
        self._is_over = len(ahead) == 0
        if self._is_over:
            return False
        key = min(ahead)
        there = [(table, values) for table, rows in state for place, values in rows if place == key]
        self._found = (*self._found, (key, tuple(there)))
        self._last = key
        return True

    def letter(self, moment, edition):
        """The chunk's letter, as it is closed at this moment, in this edition."""
        if edition > len(self._steps):
            return self._told(moment, self._low - 1, ())
        return self._told(moment, self._high if self._is_over else self._last, self._found)

    def _told(self, moment, last, rows):
        """The letter that covers the keys up to last."""
        return ("chunk", (self._opened, moment), (self._low, last), self._steps, rows)
