"""The errors: each keeps, as `value`, what it is raised for."""


class MomentError(ValueError):
    """What all errors of the package derive from."""

    def __init__(self, value):
        self.value = value


class BadValue(MomentError):
    """Keeps what is no value, or none of the column's kind."""


class BadText(MomentError):
    """Keeps what tells nothing of what it should tell."""


class BadChange(MomentError):
    """Keeps what is no change."""


class BadStep(MomentError):
    """Keeps what is no step by its form."""


class BadEntry(MomentError):
    """Keeps what is no entry by its form, or the number of one that cannot stand."""


class BadSchema(MomentError):
    """Keeps what is no schema."""


class There(MomentError):
    """Keeps a name that is taken, or None for what was founded or joined before."""


class Full(MomentError):
    """Keeps how many there may be at most."""


class NoTable(MomentError):
    """Keeps the name of a table that is not there."""


class NoColumn(MomentError):
    """Keeps the name of a column that is not there."""


class BadKind(MomentError):
    """Keeps the name of a column that is of the wrong kind."""


class BadState(MomentError):
    """Keeps what is no state of the schema."""


class BadChanges(MomentError):
    """Keeps what is no tuple of changes, or of keys and their rows."""


class BadValues(MomentError):
    """Keeps values that are not those of the table's columns."""


class NoRow(MomentError):
    """Keeps a table and a key under which no row lies in it."""


class BadKey(MomentError):
    """Keeps what is no key."""


class BadRows(MomentError):
    """Keeps what does not tell what one key has."""


class NoMoment(MomentError):
    """Keeps what is no moment that is there."""


class NoEdition(MomentError):
    """Keeps what is no edition that is there."""


class BadDisk(MomentError):
    """Keeps the place of the first part that is no block, or None."""


class BadNumber(MomentError):
    """Keeps what is no number, or out of its bounds."""


class BadPlace(MomentError):
    """Keeps what is no place of a disk."""


class BadBlock(MomentError):
    """Keeps what is no block."""


class Fallen(MomentError):
    """Keeps nothing: None, of a disk that fell."""


class BadFates(MomentError):
    """Keeps what does not tell the fates of writes."""


class NoBook(MomentError):
    """Keeps nothing: None, of a disk on which no book lies."""


class BadRecord(MomentError):
    """Keeps what is no record."""


class BadRecords(MomentError):
    """Keeps what is no tuple of records."""


class NoRoom(MomentError):
    """Keeps nothing: None, of a book without room enough."""


class BadMany(MomentError):
    """Keeps what is no number of partitions."""


class BadEntries(MomentError):
    """Keeps what is no tuple of entries, or how many there should be."""


class BadPartition(MomentError):
    """Keeps what is no partition."""


class BadMoment(MomentError):
    """Keeps what is no moment."""


class BadLetter(MomentError):
    """Keeps what is no letter."""


class Clash(MomentError):
    """Keeps the partition and the moment of a letter that cannot be true."""


class NoSource(MomentError):
    """Keeps nothing: None, of a disk on which no source was founded."""


class NoPartition(MomentError):
    """Keeps what is no partition of the source."""


class BadKeys(MomentError):
    """Keeps a low key and a high one that is below it."""


class NoChunk(MomentError):
    """Keeps what is no number of a chunk that is open."""


class BadChunks(MomentError):
    """Keeps what are no chunks of a copy."""


class Lacks(MomentError):
    """Keeps the least key that no chunk covers."""


class BadView(MomentError):
    """Keeps what is no view."""


class BadViews(MomentError):
    """Keeps what is no tuple of views."""


class NoConsumer(MomentError):
    """Keeps nothing: None, of a disk on which no consumer joined."""


class Unready(MomentError):
    """Keeps nothing: None, of a consumer that shows nothing yet."""


class BadDeed(MomentError):
    """Keeps what is no deed."""


class NoOne(MomentError):
    """Keeps who is none of the machines."""


class NoLetter(MomentError):
    """Keeps what is no number of a letter in the bag."""


class Awake(MomentError):
    """Keeps who is not down."""


class BadScript(MomentError):
    """Keeps the number of the first line that is none, or 0."""


class BadLine(MomentError):
    """Keeps what is no line."""


class BadLines(MomentError):
    """Keeps what is no tuple of lines."""


class NothingToUndo(MomentError):
    """Keeps nothing: None, of a desk on which no line stands."""


class NothingToRedo(MomentError):
    """Keeps nothing: None, of a desk with no line taken back."""


class BadJournal(MomentError):
    """Keeps the number of the first line that is none, or 0."""
