"""Books: rows of records that stand any cut (section 8).

How a book lies on its disk: at the places 0 and 1 are its heads, at the others its records' blocks. Each block begins
with how many signs it has, so a beginning of it is never taken for the whole. A head tells its number, and where the
last block is; a block tells where the one ahead of it is. The head with the greater number is in force.
"""

from toldmoment.disks import PLACES
from toldmoment.errors import BadRecord, BadRecords, NoBook, NoRoom
from toldmoment.forms import integer_in, is_short, is_signs

MOST_WORDS = 200
MOST_WORD_SIGNS = 40
HEADS = (0, 1)
# Told where there is no block ahead: a head is there, and never a block.
NOWHERE = 0
# How many signs of a block are left behind its length, where the one ahead of it is, and "new" or "on".
ROOM = 109


class Book:
    """The book that lies on a disk."""

    def __init__(self, disk):
        found = found_on(disk)
        if found is None:
            found = begun_on(disk)
        self.disk = disk
        self._head, self._number, self._places, self.records = found
        kept = {place: True for place in (self._head, *self._places)}
        self._empty([place for place, text in enumerate(disk.blocks) if text != "" and place not in kept])

    def add(self, record):
        """Lets the record stand behind all others."""
        if not is_record(record):
            raise BadRecord(record)
        self._lead_to(self._places + self._land((record,), self._places))
        self._empty([other_head(self._head)])
        self.records = (*self.records, record)

    def anew(self, records):
        """Lets just these records stand."""
        if not isinstance(records, tuple) or not all([is_record(record) for record in records]):
            raise BadRecords(records)
        gone = self._places
        self._lead_to(self._land(records, ()))
        self._empty([other_head(self._head), *gone])
        self.records = records

    def _land(self, records, ahead):
        """Lets the records' blocks land behind those at the places ahead; where they are."""
        parts = [part for record in records for part in parts_of(record)]
        taken = {place: True for place in (*HEADS, *self._places)}
        free = [place for place in range(PLACES) if place not in taken]
        if len(parts) > len(free):
            raise NoRoom(None)
        places = tuple(free[:len(parts)])
        before = last_of(ahead)
        for part, place in zip(parts, places):
            self.disk.write(place, sized((str(before), *part)))
            before = place
        if len(places) > 0:
            self.disk.sync()
        return places

    def _lead_to(self, places):
        """Lets the other head land, which leads to the blocks at these places: they have landed ahead of it."""
        head, number = other_head(self._head), self._number + 1
        self.disk.write(head, head_text(number, places))
        self.disk.sync()
        self._head, self._number, self._places = head, number, places

    def _empty(self, places):
        """Empties these places: signs are written only where none are, so a torn block is only a beginning."""
        for place in places:
            self.disk.write(place, "")
        if len(places) > 0:
            self.disk.sync()


def records_on(disk):
    """The records of the book that lies on the disk, which is only looked at; NoBook as Book raises it."""
    found = found_on(disk)
    return () if found is None else found[3]


def found_on(disk):
    """The head in force, its number, where its blocks are, and the records; None if a book is still to be begun."""
    texts = {place: text for place, text in enumerate(disk.blocks) if text != ""}
    heads = [(*head_in(texts[place]), place) for place in HEADS if len(head_in(texts.get(place, ""))) > 0]
    if len(heads) == 0:
        if any([place != HEADS[0] for place in texts]):
            raise NoBook(None)
        return None
    number, last, head = max(heads)
    places, records = chain_in(texts, last)
    return head, number, places, records


def begun_on(disk):
    """Begins a book without records; what found_on tells of it."""
    if disk.read(HEADS[0]) != "":
        disk.write(HEADS[0], "")
        disk.sync()
    disk.write(HEADS[0], head_text(1, ()))
    disk.sync()
    return HEADS[0], 1, (), ()


def chain_in(texts, last):
    """Where the blocks are that lead to the last one, and the records that they tell, both in sequence."""
    places, records, words = [], [], ()
    place = last
    while place != NOWHERE:
        part = part_in(texts.get(place, ""))
        # More blocks than places would lead in a circle.
        if len(part) == 0 or len(places) == PLACES:
            raise NoBook(None)
        places.append(place)
        words = (*part[2:], *words)
        if part[1] == "new":
            records.append(words)
            words = ()
        place = part[0]
    if len(words) > 0 or any([len(record) > MOST_WORDS for record in records]):
        raise NoBook(None)
    return tuple(places[::-1]), tuple(records[::-1])


def is_record(value):
    """Whether value is a record."""
    if not is_short(value, MOST_WORDS):
        return False
    return all([is_signs(word, MOST_WORD_SIGNS) and len(word) > 0 for word in value])


def parts_of(record):
    """What the blocks of a record hold: the words of each, behind "new" in the first one and "on" in the others."""
    parts = [["new"]]
    room = ROOM
    for word in record:
        if len(word) >= room:
            parts.append(["on"])
            room = ROOM
        parts[-1].append(word)
        room -= len(word) + 1
    return parts


def other_head(head):
    """The place of the other head."""
    return HEADS[1] if head == HEADS[0] else HEADS[0]


def last_of(places):
    """The last one of these places."""
    return places[-1] if len(places) > 0 else NOWHERE


def head_text(number, places):
    """The text of the head that leads to the blocks at these places."""
    return sized(("book", str(number), str(last_of(places))))


def sized(words):
    """The text of a block of these words, behind how many signs it has."""
    text = " ".join(words)
    return f"{len(text) + 4:03d} {text}"


def words_in(text):
    """The words of a block that has landed wholly; none of any other one."""
    words = text.split(" ")
    return tuple(words[1:]) if words[0] == f"{len(text):03d}" else ()


def head_in(text):
    """A head's number, and where its last block is; () of what is no head."""
    words = words_in(text)
    if len(words) != 3 or words[0] != "book":
        return ()
    number, last = integer_in(words[1]), integer_in(words[2])
    return () if number is None or last is None else (number, last)


def part_in(text):
    """Where the block ahead of this one is, "new" or "on", and the words; () of what is no block of a record."""
    words = words_in(text)
    if len(words) < 2 or words[1] not in ("new", "on"):
        return ()
    if not all([1 <= len(word) <= MOST_WORD_SIGNS for word in words[2:]]):
        return ()
    before = integer_in(words[0])
    return () if before is None else (before, *words[1:])
