"""The source: a history that is kept in a book, sent in letters, and read in chunks (section 9)."""

from toldmoment.books import Book, records_on
from toldmoment.errors import (
    BadKeys, BadNumber, BadRecord, MomentError, NoChunk, NoMoment, NoPartition, NoSource, NoTable, There,
)
from toldmoment.forms import integer_in, is_integer, want_key
from toldmoment.histories import entry_behind, state_seen, steps_among, want_edition
from toldmoment.letters import is_many, is_partition, letters_behind, partition_by
from toldmoment.readings import Reading
from toldmoment.schemas import names_of
from toldmoment.states import keys_of
from toldmoment.stored import (
    base_stored, entries_stored, entry_record, entry_records, is_entry_record, least_moment, row_records, step_records,
)

# The first word of the first record of a source's book.
HEADING = "source"


def founded(disk, partitions):
    """A new source, without tables, on this disk."""
    if not is_many(partitions):
        raise BadNumber(partitions)
    if len(records_on(disk)) > 0:
        raise There(None)
    Book(disk).add(heading(0, (0,) * partitions))
    return Source(disk)


class Source:
    """The source that lies on a disk."""

    def __init__(self, disk):
        records = records_on(disk)
        try:
            self._begin(records)
        except MomentError:
            raise NoSource(None) from None
        # Opening a book may write: what is refused is refused ahead of it, and changes nothing.
        self._book = Book(disk)
        self._chunks = {}
        self._many_chunks = 0

    def deal(self, changes):
        """Does a deal; its moment."""
        return self._do(("deal", changes))

    def step(self, step):
        """Does a step; its moment."""
        return self._do(("step", step))

    def rows(self, edition, table):
        """The table's rows of the newest state, seen by this edition."""
        want_edition(edition, self.edition)
        if table not in names_of(self._editions[edition]):
            raise NoTable(table)
        return dict(state_seen(self._editions, self.steps, self.state, edition))[table]

    def letters(self, partition, moment):
        """The partition's letters above this moment, and a mark."""
        if not is_partition(partition, self.partitions):
            raise NoPartition(partition)
        self._want_moment(moment, 0)
        if moment < self.first:
            return (("old", partition, self.first),)
        letters = self._letters(partition, self.entries)
        last = last_moment(letters, self._lasts[partition])
        mark = (("mark", partition, self.moment, last),) if self.moment > 0 else ()
        return (*[letter for letter in letters if letter[2] > moment], *mark)

    def compact(self, moment):
        """Lets go the entries up to this moment."""
        self._want_moment(moment, self.first)
        if moment == self.first:
            return
        gone, left = self.entries[:moment - self.first], self.entries[moment - self.first:]
        schema, state = self._base
        for entry in gone:
            schema, state = entry_behind(schema, state, entry)
        lasts = [last_moment(self._letters(partition, gone), last) for partition, last in enumerate(self._lasts)]
        past = self.steps[:self.edition - len(steps_among(left))]
        records = (heading(moment, lasts), *step_records(past), *row_records(state), *entry_records(left))
        self._book.anew(records)
        self._begin(records)

    def chunk(self, low, high):
        """Opens a chunk over the keys from low to high; its number."""
        want_key(low)
        want_key(high)
        if low > high:
            raise BadKeys((low, high))
        self._many_chunks += 1
        self._chunks[self._many_chunks] = Reading(low, high, self.moment, self.steps)
        return self._many_chunks

    def chunk_row(self, chunk):
        """Reads the rows of the next key; whether there is one."""
        return self._open_chunk(chunk).read_row(self.state)

    def chunk_end(self, chunk):
        """Closes the chunk; its letter."""
        letter = self._open_chunk(chunk).letter(self.moment, self.edition)
        del self._chunks[chunk]
        return letter

    def _begin(self, records):
        """Stands where a book's records lead; some error if no source keeps such records."""
        ahead, later = parted(records)
        self.steps, self._editions, state = base_stored(ahead[1:])
        self.first, self._lasts = heading_in(ahead[0])
        self.partitions = len(self._lasts)
        self._base = (self._editions[-1], state)
        if not can_lead(self.first, self._lasts, len(self.steps), self._editions[-1], keys_of(state)):
            raise BadRecord(ahead[0])
        self.schema, self.state = self._base
        self.moment, self.edition, self.entries = self.first, len(self.steps), ()
        for entry in entries_stored(later):
            self._go_on(entry, entry_behind(self.schema, self.state, entry))

    def _do(self, entry):
        """Keeps one entry more, and stands behind it; its moment."""
        behind = entry_behind(self.schema, self.state, entry)
        self._book.add(entry_record(entry))
        self._go_on(entry, behind)
        return self.moment

    def _go_on(self, entry, behind):
        """Stands behind one entry more, at this schema and state."""
        self.schema, self.state = behind
        self.moment += 1
        self.entries = (*self.entries, entry)
        if entry[0] == "step":
            self.edition += 1
            self.steps = (*self.steps, entry[1])
            self._editions = (*self._editions, self.schema)

    def _letters(self, partition, entries):
        """The partition's letters of entries, those of the moments above first."""
        return letters_behind(entries, self.first, self._lasts[partition], partition, self.partitions)

    def _want_moment(self, value, least):
        """Raises NoMoment unless value is a moment from least to the newest."""
        if not is_integer(value) or not least <= value <= self.moment:
            raise NoMoment(value)

    def _open_chunk(self, value):
        """The chunk of this number; NoChunk unless it is open."""
        if not is_integer(value) or value not in self._chunks:
            raise NoChunk(value)
        return self._chunks[value]


def heading(first, lasts):
    """The first record of a source: behind its first moment stands each partition's last one up to there."""
    return (HEADING, str(first), *[str(moment) for moment in lasts])


def parted(records):
    """The records up to the first entry's, and the others; BadRecord if the first one is that of an entry."""
    many = 0
    while many < len(records) and not is_entry_record(records[many]):
        many += 1
    if many == 0:
        raise BadRecord(records[:1])
    return records[:many], records[many:]


def heading_in(record):
    """What the first record of a source tells: its first moment, and each partition's last one up to there."""
    numbers = [integer_in(word) for word in record[1:]]
    if record[:1] != (HEADING,) or None in numbers or not is_many(len(numbers) - 1):
        raise BadRecord(record)
    return numbers[0], tuple(numbers[1:])


def can_lead(first, lasts, many_steps, schema, keys):
    """Whether so many steps, and changes of these keys, can have led to this schema at the first moment.

    Each partition has heard of all steps, and of its own keys. Where no table is, nothing was changed since the last
    step, and without a step nothing at all.
    """
    if first < least_moment(many_steps, keys) or (len(schema) == 0 and len(set(lasts)) > 1):
        return False
    if many_steps == 0 and lasts[0] != 0:
        return False
    heard = [[key for key in keys if partition_by(key, len(lasts)) == partition] for partition in range(len(lasts))]
    return all([least_moment(many_steps, its) <= last <= first for its, last in zip(heard, lasts)])


def last_moment(letters, before):
    """The moment of the last letter, or the one before all of them."""
    return letters[-1][2] if len(letters) > 0 else before
