"""Consumers: views of the source's state at a told moment, kept by letters and chunks on a disk (section 14)."""

from toldmoment.books import Book, records_on
from toldmoment.copies import copy_told, greatest_of, is_chunk, is_next, key_lacking
from toldmoment.errors import (
    BadLetter, BadNumber, BadRecord, BadViews, MomentError, NoConsumer, NoEdition, There, Unready,
)
from toldmoment.forms import GREATEST_KEY, number_in
from toldmoment.histories import want_edition
from toldmoment.inboxes import Inbox
from toldmoment.letters import is_letter, is_many, is_moment, is_old
from toldmoment.stands import stand_at, stand_in
from toldmoment.states import keys_of
from toldmoment.stored import least_moment
from toldmoment.views import NO_NAMES, is_view, shown_of, view_in, view_text

# The first words of a consumer's first record, and of those of its views.
HEADING = "consumer"
VIEW = "view"
# Stands in the first record of a consumer that stands at no moment.
NO_MOMENT = "none"
MOST_VIEWS = 4
# What a moment tells of which no partition has a letter.
NO_CHANGES = ("deal", ())


def joined(disk, partitions, edition, views):
    """A new consumer, which shows nothing yet, on this disk."""
    if not is_many(partitions):
        raise BadNumber(partitions)
    if not is_moment(edition):
        raise NoEdition(edition)
    want_views(views)
    if len(records_on(disk)) > 0:
        raise There(None)
    Book(disk).anew(records_of(partitions, edition, views, None))
    return Consumer(disk)


class Consumer:
    """The consumer that lies on a disk."""

    def __init__(self, disk):
        records = records_on(disk)
        try:
            self._begin(records)
        except MomentError:
            raise NoConsumer(None) from None
        # Opening a book may write: what is refused is refused ahead of it, and changes nothing.
        self._book = Book(disk)

    def hear(self, letter):
        """Takes in a letter, a chunk, or that letters are gone."""
        if is_chunk(letter):
            self._hear_chunk(letter)
        elif is_old(letter, self.partitions):
            self._hear_old(letter)
        elif not is_letter(letter, self.partitions):
            raise BadLetter(letter)
        elif self._inbox is not None:
            self._inbox.hear(letter)
            self._go_on()

    def asks(self):
        """What lacks."""
        low = key_lacking(self._chunks) if self.is_copying else None
        keys = () if low is None else (("keys", low, GREATEST_KEY),)
        if self._inbox is None:
            return keys
        reaches = [("letters", partition, self._inbox.reach(partition)) for partition in range(self.partitions)]
        return (*keys, *reaches)

    def tables(self):
        """What its views show."""
        self._want_ready()
        schema, state = self._stand.seen(self.edition)
        return tuple([shown_of(schema, state, view) for view in self.views])

    def move(self, edition, views):
        """Shows these views, of this edition, from now on."""
        self._want_ready()
        want_edition(edition, self._stand.edition)
        want_views(views)
        self._book.anew(records_of(self.partitions, edition, views, self._stand))
        self.edition = edition
        self.views = views

    def _begin(self, records):
        """Is what a book's records tell; some error if no consumer keeps such records."""
        heading, views, others = parted(records)
        self.partitions, self.edition, moment = heading_in(heading)
        self.views = tuple([view_stored(record) for record in views])
        want_views(self.views)
        self._stand = None if moment is None else stand_in(moment, others)
        # Whatever was taken for something else is told otherwise.
        if not can_stand(self._stand) or records_of(self.partitions, self.edition, self.views, self._stand) != records:
            raise BadRecord(heading)
        self._stand_there(self._stand, None if moment is None else Inbox(self.partitions, moment))

    def _stand_there(self, stand, inbox):
        """Stands there, or nowhere, with the letters of this inbox, and with nothing of a copy."""
        self._stand = stand
        self._inbox = inbox
        self._chunks = ()
        self.is_copying = stand is None
        self.moment = None
        if stand is not None and self.edition <= stand.edition:
            self.moment = stand.moment

    def _hear_chunk(self, letter):
        """Takes a chunk into the copy, if it counts."""
        low = letter[1][0]
        if not self.is_copying or not is_next(self._chunks, letter):
            return
        if self._stand is not None and low < self._stand.moment:
            return
        if len(self._chunks) == 0:
            self._inbox = Inbox(self.partitions, low)
        self._chunks = (*self._chunks, letter)
        self._go_on()

    def _hear_old(self, letter):
        """Begins to copy, or does so anew, if letters are gone that are needed."""
        _, partition, first = letter
        if not self.is_copying:
            needs = self._stand.moment < first
        else:
            needs = len(self._chunks) > 0 and self._inbox.reach(partition) < first
        if needs:
            self.is_copying = True
            self._chunks = ()
            self._inbox = None

    def _go_on(self):
        """Does all moments that are whole, one behind another, unless the copy still lacks something."""
        if self.is_copying:
            if key_lacking(self._chunks) is not None or self._inbox.newest() < greatest_of(self._chunks):
                return
            self._keep(self._copied())
        told = self._inbox.whole()
        for moment, entry in told:
            self._keep(self._stand.behind(moment, entry))
        if self._inbox.newest() > self._stand.moment:
            self._keep(self._stand.behind(self._inbox.newest(), NO_CHANGES))

    def _copied(self):
        """Where the copy leads, in which nothing lacks any more."""
        moment = greatest_of(self._chunks)
        steps, _, state = copy_told(self._chunks, [part for part in self._inbox.whole() if part[0] <= moment])
        return stand_at(moment, steps, state)

    def _keep(self, stand):
        """Stands there, as soon as that is on the disk: nothing is shown that is not."""
        self._book.anew(records_of(self.partitions, self.edition, self.views, stand))
        self._inbox.done(stand.moment)
        self._stand_there(stand, self._inbox)

    def _want_ready(self):
        """Raises Unready while it shows nothing."""
        if self.moment is None:
            raise Unready(None)


def want_views(value):
    """Raises BadViews unless value is a tuple of one to four views, by whatever schemas."""
    if not isinstance(value, tuple) or not 1 <= len(value) <= MOST_VIEWS or not all([is_view(part) for part in value]):
        raise BadViews(value)


def can_stand(stand):
    """Whether so many steps, and changes of its keys, can have led there."""
    return stand is None or stand.moment >= least_moment(stand.edition, keys_of(stand.state))


# From here on: how a consumer lies in its book.


def records_of(partitions, edition, views, stand):
    """The records of a consumer that stands there, or nowhere."""
    moment = NO_MOMENT if stand is None else str(stand.moment)
    heading = (HEADING, str(partitions), str(edition), moment)
    told = () if stand is None else stand.told_in_book()
    return (heading, *[view_record(view) for view in views], *told)


def view_record(view):
    """The record of a view: the names of one of rows stand by themselves, as they may be too long for one word."""
    words = view_text(view).split(" ")
    if view[0] == "rows":
        words = [*words[:2], str(len(view[2])), *view[2], *words[3:]]
    return (VIEW, *words)


def view_stored(record):
    """The view of which this is the record; None or some other view if it is no such record."""
    words = list(record[1:])
    many = number_in(words[2]) if len(words) > 2 else None
    if many is not None:
        names = words[3:3 + many]
        words = [*words[:2], ",".join(names) if len(names) > 0 else NO_NAMES, *words[3 + many:]]
    return view_in(" ".join(words))


def parted(records):
    """The first record, those of views, and the others; BadRecord if there is none."""
    if len(records) == 0:
        raise BadRecord(records)
    many = 1
    while many < len(records) and records[many][:1] == (VIEW,):
        many += 1
    return records[0], records[1:many], records[many:]


def heading_in(record):
    """The partitions, the edition and the moment, or None, that a consumer's first record tells."""
    if len(record) != 4:
        raise BadRecord(record)
    partitions, edition, moment = [number_in(word) for word in record[1:]]
    if not is_many(partitions) or not is_moment(edition):
        raise BadRecord(record)
    return partitions, edition, moment
