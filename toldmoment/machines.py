"""A rig's machines: each has a disk of its own, and what runs there, as long as it does not fall (section 15)."""

from toldmoment.consumers import Consumer
from toldmoment.disks import Disk
from toldmoment.errors import Fallen, NoRoom
from toldmoment.forms import is_integer
from toldmoment.source import Source

# The one of a rig's machines that is its source.
SOURCE = 0


class Machine:
    """The source, or a consumer, with its disk."""

    def __init__(self, who, disk, runs):
        self.who = who
        self.disk = disk
        # The Source or the Consumer; None while the machine is down.
        self.runs = runs
        # The greatest moment at which it was.
        self.greatest = None

    def is_down(self):
        """Whether nothing runs."""
        return self.runs is None

    def start(self, disk):
        """Opens what lies on this disk, which is the machine's from now on; "up", or "fallen" if it falls so."""
        self.disk = disk
        self.runs = None
        try:
            self.runs = Source(disk) if self.who == SOURCE else Consumer(disk)
        except Fallen:
            return "fallen"
        self.note()
        return "up"

    def hear(self, letter):
        """Lets the consumer hear the letter."""
        try:
            self.runs.hear(letter)
        except NoRoom:
            # What was done ahead of it stands, and was shown.
            self.note()
            raise
        self.note()

    def fall(self):
        """Nothing runs any more; what waits on the disk still does."""
        self.runs = None

    def shown(self):
        """The moment and the tables that the consumer shows; None while it shows nothing."""
        if self.runs is None or self.runs.moment is None:
            return None
        return self.runs.moment, self.runs.tables()

    def note(self):
        """Notes the moment at which it is: it may not go back from there."""
        moment = self.runs.moment
        if moment is not None:
            self.greatest = moment if self.greatest is None else max(self.greatest, moment)

    def has_gone_back(self):
        """Whether its moment is below one at which it was, or none behind one."""
        return self.greatest is not None and (self.runs.moment is None or self.runs.moment < self.greatest)

    def cut_disk(self, fates):
        """The disk that is found behind a cut with these fates, the last ones of which may lack, or be too many."""
        waiting = self.disk.waiting
        given = (*fates, *["none"] * len(waiting))
        return self.disk.cut(tuple([fate_for(fate, text) for fate, (_, text) in zip(given, waiting)]))

    def rested_disk(self, left):
        """The disk on which all has landed that waited, with so many writes and syncs left."""
        return Disk(self.cut_disk(("all",) * len(self.disk.waiting)).blocks, left)


def fate_for(fate, text):
    """The fate for a write of this text: a number that is greater than its signs counts as all."""
    return "all" if is_integer(fate) and fate > len(text) else fate


def are_fates(value):
    """Whether value is a tuple of fates, for writes of whatever texts."""
    return isinstance(value, tuple) and all([is_any_fate(part) for part in value])


def is_any_fate(value):
    """Whether value is a fate of a write of some text."""
    if isinstance(value, str):
        return value in ("all", "none")
    return is_integer(value) and value >= 0
