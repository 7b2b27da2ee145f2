"""Disks: rows of blocks on which writes wait until they are told to land (section 8)."""

from toldmoment.errors import BadBlock, BadDisk, BadFates, BadNumber, BadPlace, Fallen
from toldmoment.forms import is_integer

PLACES = 1000
MOST_BLOCK_SIGNS = 120
MOST_LEFT = 1000000


class Disk:
    """A disk that may fall at any write or sync."""

    def __init__(self, blocks=(), left=None):
        want_blocks(blocks)
        if left is not None and not (is_integer(left) and 0 <= left <= MOST_LEFT):
            raise BadNumber(left)
        self.blocks = trimmed(blocks)
        self.waiting = ()
        self.left = left

    def __eq__(self, other):
        return isinstance(other, Disk) and self.blocks == other.blocks and self.waiting == other.waiting

    def read(self, place):
        """What stands at the place for a machine that runs: it sees what waits."""
        want_place(place)
        for other, text in reversed(self.waiting):
            if other == place:
                return text
        return self.blocks[place] if place < len(self.blocks) else ""

    def write(self, place, text):
        """Lets a write more wait."""
        want_place(place)
        if not is_block(text):
            raise BadBlock(text)
        self._spend()
        self.waiting = (*self.waiting, (place, text))

    def sync(self):
        """Lets all land that waits."""
        self._spend()
        texts = self._texts()
        for place, text in self.waiting:
            texts[place] = text
        self.blocks = trimmed(texts)
        self.waiting = ()

    def cut(self, fates):
        """The disk that is found behind a cut of the current, in which each write that waits has its fate."""
        if not isinstance(fates, tuple) or len(fates) != len(self.waiting):
            raise BadFates(fates)
        if not all([is_fate(fate, text) for fate, (_, text) in zip(fates, self.waiting)]):
            raise BadFates(fates)
        texts = self._texts()
        for fate, (place, text) in zip(fates, self.waiting):
            texts[place] = landed(fate, text, texts[place])
        return Disk(trimmed(texts))

    def _texts(self):
        """What has landed, at each place up to the last one that is written to."""
        many = max([len(self.blocks), *[place + 1 for place, _ in self.waiting]])
        return [*self.blocks, *[""] * (many - len(self.blocks))]

    def _spend(self):
        """Takes one of the writes and syncs that are left; falls if there is none."""
        if self.left is not None:
            if self.left == 0:
                raise Fallen(None)
            self.left -= 1


def is_block(value):
    """Whether value is a block."""
    if not isinstance(value, str) or len(value) > MOST_BLOCK_SIGNS:
        return False
    return value.isascii() and value.isprintable()


def is_fate(value, text):
    """Whether value is a fate of a write of this text."""
    if isinstance(value, str):
        return value in ("all", "none")
    return is_integer(value) and 0 <= value <= len(text)


def want_blocks(value):
    """Raises BadDisk with the number of the first part that is no block, or with None for what is no row of parts."""
    if not isinstance(value, tuple) or len(value) > PLACES:
        raise BadDisk(None)
    for number, block in enumerate(value):
        if not is_block(block):
            raise BadDisk(number)


def want_place(value):
    """Raises BadPlace unless value is a place."""
    if not is_integer(value) or not 0 <= value < PLACES:
        raise BadPlace(value)


def trimmed(texts):
    """The blocks up to the last one that holds signs."""
    many = len(texts)
    while many > 0 and texts[many - 1] == "":
        many -= 1
    return tuple(texts[:many])


def landed(fate, text, old):
    """What a write of text leaves where old stood."""
    if fate == "all":
        return text
    if fate == "none":
        return old
    return text[:fate] + old[fate:]
