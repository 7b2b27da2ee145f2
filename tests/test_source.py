"""Section 9: the source beside its own history: deals, steps, letters, chunks, compacted and opened anew."""

from models import any_deal, any_next_step, any_story, Story
from samples import ANYTHING, Case, NO_CHANGES, NO_STEPS, chances
from toldmoment.books import Book
from toldmoment.disks import Disk
from toldmoment.errors import (
    BadChanges, BadKey, BadKeys, BadKind, BadNumber, BadStep, BadValues, Full, MomentError, NoBook, NoChunk, NoColumn, NoEdition,
    NoMoment, NoPartition, NoRoom, NoRow, NoSource, NoTable, There,
)
from toldmoment.histories import schemas, seen, state_at
from toldmoment.inboxes import Inbox
from toldmoment.letters import letters_of
from toldmoment.schemas import entry_text, step_text
from toldmoment.source import Source, founded
from toldmoment.states import fits

MAKE = ("make", "staff", (("who", "text"), ("pay", "int")))
NO_INTEGERS = (-1, True, False, None, "0", "", [], (), (0,), {}, 1.0)


def put(key, *values):
    return ("put", "staff", key, values or ("ann", key))


def source_of(story, many=2):
    """A source that was led through the story, and its disk."""
    disk = Disk()
    source = founded(disk, many)
    lead(source, story.entries)
    return source, disk


def lead(source, entries):
    for word, told in entries:
        assert (source.deal(told) if word == "deal" else source.step(told)) == source.moment


def weight(first, story):
    """What a source compacted up to first weighs, told as the document tells it."""
    past = [told for word, told in story.entries[:first] if word == "step"]
    rows = [values for _, rows in story.state(first) for _, values in rows]
    words = sum(len(entry_text(entry).split(" ")) + 3 for entry in story.entries[first:])
    return words + sum(len(step_text(step).split(" ")) + 3 for step in past) + sum(6 + len(values) for values in rows)


def told_of(source):
    """All that can be asked of a source, but chunks."""
    return (source.partitions, source.moment, source.edition, source.first, source.schema, source.state, source.steps,
            source.entries,
            [source.letters(partition, moment) for partition in range(source.partitions)
             for moment in range(source.moment + 1)])


class Beside(Case):
    """A source is held against its story."""

    def agrees(self, source, story, first=0):
        self.same((source.moment, source.edition, source.first), (story.moment, story.editions[-1], first))
        self.same((source.schema, source.state), (story.schema, story.state(story.moment)))
        self.same((source.steps, source.entries), (story.steps, story.entries[first:]))

    def rows_agree(self, source, story):
        for edition, schema in enumerate(story.edition_schemas()):
            state = story.seen(story.moment, edition)[1]
            for table, rows in state:
                self.same(source.rows(edition, table), rows)
            for table in ("zz", None, True, [], ("a",), *[name for name in "abcdefg" if name not in dict(schema)]):
                self.refused_with(NoTable, table, source.rows, edition, table)

    def letters_agree(self, source, story):
        for partition in range(source.partitions):
            every = letters_of(story.entries, 0, partition, source.partitions)
            last = every[-1][2] if every else 0
            mark = (("mark", partition, story.moment, last),) if story.moment else ()
            for moment in range(story.moment + 1):
                wanted = (*[letter for letter in every if letter[2] > moment], *mark)
                if moment < source.first:
                    wanted = (("old", partition, source.first),)
                self.same(source.letters(partition, moment), wanted)


class Founded(Beside):

    def test_a_new_source(self):
        for many in (1, 2, 3, 4):
            disk = Disk()
            source = founded(disk, many)
            self.assertIsInstance(source, Source)
            self.same(told_of(source), (many, 0, 0, 0, (), (), (), (), [()] * many))
            self.same(disk.waiting, ())
            again = Source(Disk(disk.blocks, 0))
            self.same(told_of(again), told_of(source))
            self.same(founded(Disk(("old one",)), many).partitions, many)

    def test_what_is_refused_in_its_sequence(self):
        lying = Disk()
        Book(lying).add(("a",))
        for number in (0, 5, -1, True, False, None, "1", "", [], (), (1,), {}, 1.0):
            for disk in (Disk(), lying, Disk(("a", "b"))):
                ahead = Disk(disk.blocks)
                self.refused_with(BadNumber, number, founded, disk, number)
                self.assertTrue(disk == ahead)
        for blocks in (("a", "b"), ("", "", "x")):
            disk = Disk(blocks)
            self.refused(NoBook, None, founded, disk, 2)
            self.refused(NoBook, None, Source, disk)
            self.same((disk.blocks, disk.waiting), (blocks, ()))
        self.refused(There, None, founded, lying, 2)
        self.refused(NoSource, None, Source, lying)
        self.same(Book(lying).records, (("a",),))

    def test_there_beside_a_source(self):
        disk = Disk()
        source = founded(disk, 2)
        source.step(MAKE)
        self.refused(There, None, founded, disk, 2)
        self.refused(There, None, founded, Disk(disk.blocks, 0), 4)
        self.same(told_of(Source(disk)), told_of(source))

    def test_no_source_and_nothing_is_changed(self):
        empty = Disk()
        Book(empty)
        for blocks in ((), ("old",), empty.blocks):
            for left in (None, 0):
                disk = Disk(blocks, left)
                self.refused(NoSource, None, Source, disk)
                self.same((disk.blocks, disk.waiting, disk.left), (blocks, (), left))

    def test_by_name(self):
        source = founded(partitions=2, disk=Disk())
        self.same(source.step(step=MAKE), 1)
        self.same(source.deal(changes=(put(1),)), 2)
        self.same(source.rows(table="staff", edition=1), ((1, ("ann", 1)),))
        self.same(source.letters(moment=1, partition=0), (("deal", 0, 2, 1, (put(1),)), ("mark", 0, 2, 2)))
        chunk = source.chunk(high=4, low=1)
        self.assertIs(source.chunk_row(chunk=chunk), True)
        self.same(source.chunk_end(chunk=chunk)[2], (1, 1))
        self.assertIsNone(source.compact(moment=1))
        disk = Disk()
        founded(disk, 1)
        self.same(Source(disk=disk).moment, 0)


PAST = ("past", "make", "a", "x", "int", "y", "text")
# Records of books, of which a source would write none.
NO_SOURCES = (
    (), ((),), (("sauce", "0", "0"),), (("source", "0"),), (("source", "0", "0"), ()), (("source", "0", "0"), ("a",)),
    (("source", "-1", "0"),), (("source", "0", "-1"),), (("source", "00", "0"),), (("source", "0", "0x"),), ((), ("source", "0", "0")),
    (("source", "1", "2"),), (("source", "1", "1"),), (("source", "5", "0", "1"),), (("source", "0", "0", "0", "0", "0", "0"),),
    (("source", "None", "0"),), (("deal",), ("source", "0", "0")), (("deal",),), (("source", "0", "0"), ("source", "0", "0")),
    (("source", "1", "1"), ("past",)), (("source", "1", "1"), ("past", "make", "a", "x")), (("source", "0", "0"), PAST),
    (("source", "1", "0"), PAST), (("source", "1", "1", "0"), PAST), (("source", "2", "2"), PAST, PAST),
    (("source", "1", "1"), ("past", "gone", "a")), (("source", "2", "2"), ("step", *PAST[1:]), ("past", "gone", "a")),
    (("source", "9", "9"), ("row", "a", "1", "5", "'x"), PAST), (("source", "9", "9"), PAST, ("row", "b", "1", "5", "'x")),
    (("source", "9", "9"), PAST, ("row", "a", "1", "5")), (("source", "9", "9"), PAST, ("row", "a", "1", "5", "6")),
    (("source", "9", "9"), PAST, ("row", "a", "0", "5", "'x")), (("source", "9", "9"), PAST, ("row", "a", "1000000", "5", "'x")),
    (("source", "9", "9"), PAST, ("row", "a", "01", "5", "'x")), (("source", "9", "9"), PAST, ("row",)),
    (("source", "9", "9"), PAST, ("row", "a")), (("source", "9", "9"), PAST, ("row", "a", "1", "x", "'x")),
    (("source", "9", "9"), PAST, ("row", "a", "2", "5", "'x"), ("row", "a", "1", "5", "'x")),
    (("source", "9", "9"), PAST, ("row", "a", "1", "5", "'x"), ("row", "a", "1", "6", "'x")),
    (("source", "9", "9"), PAST, ("row", "a", "1", "5", "'x"), ("past", "gone", "a")),
    (("source", "9", "1"), PAST, ("row", "a", "1", "5", "'x")), (("source", "9", "9", "1"), PAST, ("row", "a", "2", "5", "'x")),
    (("source", "0", "0"), ("step",)), (("source", "0", "0"), ("deal", "a")), (("source", "0", "0"), ("step", "gone", "a")),
    (("source", "0", "0"), ("step", *PAST[1:]), ("deal", "drop", "a", "1")),
    (("source", "0", "0"), ("step", *PAST[1:]), ("deal", "put", "a", "1", "5")), (("source", "0", "0"), ("deal",), ()),
    (("source", "0", "0"), ("deal",), ("row", "a", "1")), (("source", "0", "0"), ("deal",), ("deal", ";")),
    (("consumer", "1", "0", "none"), ("view", "count", "a", "x")),
    # No table is there behind the last step, of which all partitions heard at one moment.
    (("source", "9", "2", "3"), PAST, ("past", "gone", "a")), (("source", "9", "1", "1"), PAST, ("past", "gone", "a")),
    (("source", "3", "0", "1"),), (("source", "3", "3", "3"),),
    # Thirteen keys need two deals.
    (("source", "2", "2"), PAST, *[("row", "a", str(key), "5", "'x") for key in range(1, 14)]),
    (("source", "2", "2", "2"), PAST, *[("row", "a", str(key), "5", "'x") for key in range(1, 14)]),
    (("source", "9", "2", "9"), PAST, *[("row", "a", str(key), "5", "'x") for key in range(1, 27, 2)]),
)
# And such as one could have written.
SOURCES = (
    (("source", "0", "0"),), (("source", "3", "0", "0"),), (("source", "9", "3", "3"), PAST, ("past", "gone", "a")),
    (("source", "2", "2"), PAST, *[("row", "a", str(key), "5", "'x") for key in range(1, 13)]),
    (("source", "3", "3"), PAST, *[("row", "a", str(key), "5", "'x") for key in range(1, 14)]),
    (("source", "3", "2", "3"), PAST, *[("row", "a", str(key), "5", "'x") for key in range(1, 25)]),
    (("source", "9", "1", "2"), PAST, ("row", "a", "2", "none", "none")), (("source", "1", "1", "1", "1", "1"), PAST, ("deal",)),
)


class NoSourceThere(Beside):
    """Books that no source wrote."""

    def is_none(self, records):
        disk = Disk()
        Book(disk).anew(records)
        for left in (None, 0):
            other = Disk(disk.blocks, left)
            self.refused(NoSource, None, Source, other)
            self.same((other.blocks, other.waiting, other.left), (disk.blocks, (), left))
            self.same(Book(other).records, records)
        if records:
            self.refused(There, None, founded, disk, 1)

    def test_records_that_no_source_writes(self):
        for records in NO_SOURCES:
            with self.subTest(records):
                self.is_none(records)

    def test_records_that_a_source_can_have_written(self):
        for records in SOURCES:
            with self.subTest(records):
                disk = Disk()
                Book(disk).anew(records)
                source = Source(Disk(disk.blocks, 0))
                self.same((source.first, source.partitions), (int(records[0][1]), len(records[0]) - 2))

    def test_a_book_that_needs_mending_is_not_mended(self):
        disk = Disk()
        Book(disk).add(("source",))
        blocks = (*disk.blocks, "torn")
        for left in (None, 0):
            other = Disk(blocks, left)
            self.refused(NoSource, None, Source, other)
            self.same((other.blocks, other.waiting, other.left), (blocks, (), left))

    def test_records_of_a_source_with_something_of_them_otherwise(self):
        refused = 0
        for chance in chances(300):
            story = any_story(chance, chance.randint(0, 8))
            source, disk = source_of(story, chance.randint(1, 4))
            source.compact(chance.randint(0, story.moment))
            records = otherwise(chance, Book(disk).records)
            other = Disk()
            Book(other).anew(records)
            try:
                found = Source(Disk(other.blocks, 0))
            except MomentError:
                refused += 1
                self.is_none(records)
            else:
                self.assertTrue(fits(found.schema, found.state))
                self.same((found.moment, found.edition), (found.first + len(found.entries), len(found.steps)))
                self.assertLessEqual(1, found.partitions)
                self.assertLessEqual(found.partitions, 4)
                found = Source(other)
                moment = found.deal(())
                found.compact(moment)
                self.same(told_of(Source(Disk(other.blocks, 0))), told_of(found))
        self.assertGreater(refused, 100)


def otherwise(chance, records):
    """These records, but for one thing."""
    records = [list(record) for record in records]
    at = chance.randrange(len(records))
    way = chance.choice(("lacks", "twice", "turned", "moved", "word", "word", "word", "short", "long"))
    if way == "lacks":
        del records[at]
    elif way == "twice":
        records.insert(at, records[at])
    elif way == "turned":
        records[at] = records[at][::-1]
    elif way == "moved":
        records.insert(chance.randrange(len(records)), records.pop(at))
    elif way == "short" and records[at]:
        del records[at][chance.randrange(len(records[at]))]
    elif way == "long":
        records[at].insert(chance.randint(0, len(records[at])), chance.choice(("0", "7", "a", "'", "none", ";", "row")))
    elif way == "word" and records[at]:
        place = chance.randrange(len(records[at]))
        records[at][place] = chance.choice(("0", "1", "2", "9", "-1", "a", "x", "'x", "none", "int", "past", "row", "deal", ";"))
    return tuple(tuple(record) for record in records)


class Deeds(Beside):

    def test_beside_its_own_history(self):
        for chance in chances(60):
            story, many = Story(), chance.randint(1, 4)
            disk = Disk()
            source = founded(disk, many)
            for _ in range(chance.randint(1, 14)):
                if not story.schema or chance.random() < 0.35:
                    story.tell(("step", any_next_step(chance, story.schema)))
                else:
                    story.tell(any_deal(chance, story))
                lead(source, story.entries[-1:])
                self.same(disk.waiting, ())
                if chance.random() < 0.3:
                    self.agrees(Source(Disk(disk.blocks, 0)), story)
                    source = Source(disk)
                self.agrees(source, story)
            self.rows_agree(source, story)
            self.letters_agree(source, story)
            self.same(told_of(source), told_of(source))
            self.same(source.state, state_at(story.entries, story.moment))
            self.same([source.schema, story.edition_schemas()], [schemas(story.entries)[-1], schemas(story.entries)])

    def test_what_a_deal_refuses(self):
        source = founded(Disk(), 2)
        self.refused(NoTable, "staff", source.deal, (put(1),))
        source.step(MAKE)
        source.deal((put(1),))
        ahead, blocks = told_of(source), source._book.disk.blocks
        for changes in (*[value for value in ANYTHING if value != ()], [], [put(1)], (put(1),) * 13, put(1),
                        *[(change,) for change in NO_CHANGES]):
            with self.subTest(repr(changes)):
                self.refused_with(BadChanges, changes, source.deal, changes)
        for change, error, value in ((("put", "team", 1, ()), NoTable, "team"), (("drop", "team", 1), NoTable, "team"),
                                     (put(1, "ann"), BadValues, ("ann",)), (put(1, 1, "ann"), BadValues, (1, "ann")),
                                     (("drop", "staff", 2), NoRow, ("staff", 2))):
            self.refused(error, value, source.deal, (put(9), change, ("drop", "staff", 7)))
        self.same((told_of(source), source._book.disk.blocks), (ahead, blocks))

    def test_what_a_step_refuses(self):
        source = founded(Disk(), 2)
        source.step(MAKE)
        ahead, blocks = told_of(source), source._book.disk.blocks
        for step in (*NO_STEPS, *ANYTHING):
            self.refused_with(BadStep, step, source.step, step)
        for step, error, value in ((MAKE, There, "staff"), (("gone", "team"), NoTable, "team"),
                                   (("cut", "staff", "x", None), NoColumn, "x"), (("turn", "staff", "pay", "int", 1, "1"), BadKind, "pay")):
            self.refused(error, value, source.step, step)
        self.same((told_of(source), source._book.disk.blocks), (ahead, blocks))
        for name in "abcde":
            source.step(("make", name, ()))
        self.refused(Full, 6, source.step, ("make", "f", ()))
        self.same((source.moment, source.edition), (6, 6))

    def test_deals_without_changes(self):
        source = founded(Disk(), 2)
        self.same([source.deal(()), source.deal(()), source.step(MAKE), source.deal(())], [1, 2, 3, 4])
        self.same(source.letters(1, 0), (("step", 1, 3, 0, MAKE), ("mark", 1, 4, 3)))
        self.same(source.letters(1, 3), (("mark", 1, 4, 3),))
        self.same((source.moment, source.edition, len(source.entries)), (4, 1, 4))
        source.compact(2)
        self.same(source.letters(1, 2), (("step", 1, 3, 0, MAKE), ("mark", 1, 4, 3)))

    def test_marks_where_no_letter_is(self):
        source = founded(Disk(), 4)
        self.same(source.letters(3, 0), ())
        source.deal(())
        self.same(source.letters(3, 0), (("mark", 3, 1, 0),))
        source.compact(1)
        self.same(source.letters(3, 1), (("mark", 3, 1, 0),))
        self.same(source.letters(3, 0), (("old", 3, 1),))

    def test_rows_in_elder_editions(self):
        source = founded(Disk(), 1)
        source.step(MAKE)
        source.deal((put(1, "ann-lee", 5), put(2, "bob", None)))
        source.step(("split", "staff", "who", "a", "b", "-"))
        source.step(("cut", "staff", "pay", 6))
        source.step(("call", "staff", "team"))
        self.same(source.rows(4, "team"), ((1, ("ann", "lee")), (2, ("bob", None))))
        self.same(source.rows(3, "staff"), source.rows(4, "team"))
        self.same(source.rows(2, "staff"), ((1, ("ann", "lee", 6)), (2, ("bob", None, 6))))
        self.same(source.rows(1, "staff"), ((1, ("ann-lee", 6)), (2, ("bob", 6))))
        self.refused(NoTable, "staff", source.rows, 4, "staff")
        self.refused(NoTable, "staff", source.rows, 0, "staff")

    def test_what_rows_and_letters_refuse_in_sequence(self):
        source = founded(Disk(), 3)
        source.step(MAKE)
        source.deal((put(1),))
        for edition in (*NO_INTEGERS, 2, 3):
            self.refused_with(NoEdition, edition, source.rows, edition, None)
            self.refused_with(NoEdition, edition, source.rows, edition, "staff")
        for table in ("team", "", None, True, 0, [], ["staff"], ("staff",), {}):
            self.refused_with(NoTable, table, source.rows, 1, table)
        for partition in (*NO_INTEGERS, 3, 4):
            self.refused_with(NoPartition, partition, source.letters, partition, None)
            self.refused_with(NoPartition, partition, source.letters, partition, 0)
        for moment in (*NO_INTEGERS, 3, 4):
            self.refused_with(NoMoment, moment, source.letters, 2, moment)


class Compacted(Beside):

    def test_at_moments_of_all_kinds_once_and_again_then_led_on(self):
        for chance in chances(60):
            story, many = any_story(chance, chance.randint(1, 12)), chance.randint(1, 4)
            source, disk = source_of(story, many)
            first = 0
            for _ in range(chance.randint(1, 4)):
                if weight(source.first, story) > 600:
                    break
                first = chance.randint(first, story.moment)
                self.assertIsNone(source.compact(first))
                self.same(disk.waiting, ())
                for found in (source, Source(Disk(disk.blocks, 0))):
                    self.agrees(found, story, first)
                    self.rows_agree(found, story)
                    self.letters_agree(found, story)
                if chance.random() < 0.5:
                    source = Source(disk)
                for _ in range(chance.randint(0, 3)):
                    story.tell(any_deal(chance, story) if chance.random() < 0.6
                               else ("step", any_next_step(chance, story.schema)))
                    lead(source, story.entries[-1:])
                self.agrees(source, story, first)
                self.letters_agree(source, story)

    def test_moments(self):
        source = founded(Disk(), 2)
        lead(source, (("step", MAKE), ("deal", (put(1),)), ("deal", (put(2),))))
        for moment in (*NO_INTEGERS, 4, 5):
            self.refused_with(NoMoment, moment, source.compact, moment)
        source.compact(2)
        ahead, blocks = told_of(source), source._book.disk.blocks
        for moment in (*NO_INTEGERS, 0, 1, 4, 5):
            self.refused_with(NoMoment, moment, source.compact, moment)
        self.same((told_of(source), source._book.disk.blocks), (ahead, blocks))
        still = Source(Disk(blocks, 0))
        still.compact(2)
        self.same((told_of(still), told_of(source)), (ahead, ahead))
        source.compact(3)
        self.same((source.first, source.entries, source.state), (3, (), (("staff", ((1, ("ann", 1)), (2, ("ann", 2)))),)))

    def test_letters_above_and_below_first(self):
        source = founded(Disk(), 2)
        lead(source, (("step", MAKE), ("deal", (put(1),)), ("deal", (put(3),)), ("deal", (put(2),)), ("deal", ())))
        source.compact(3)
        self.same([source.letters(0, moment) for moment in (0, 2)], [(("old", 0, 3),)] * 2)
        self.same([source.letters(0, moment) for moment in (3, 4, 5)], [(("mark", 0, 5, 3),)] * 3)
        self.same(source.letters(1, 3), (("deal", 1, 4, 1, (put(2),)), ("mark", 1, 5, 4)))
        source.compact(5)
        self.same([source.letters(1, 5), source.letters(0, 5)], [(("mark", 1, 5, 4),), (("mark", 0, 5, 3),)])
        source.deal((put(2),))
        self.same(source.letters(1, 5), (("deal", 1, 6, 4, (put(2),)), ("mark", 1, 6, 6)))

    def test_values_of_all_kinds_are_kept(self):
        source = founded(Disk(), 1)
        source.step(("make", "t", (("a", "text"), ("b", "int"), ("c", "text"))))
        source.deal((("put", "t", 1, ("", -99999999999, "none")), ("put", "t", 2, (None, None, None)),
                     ("put", "t", 999999, ("'", 0, "5")), ("put", "t", 7, ("past", 99999999999, ";")),
                     ("put", "t", 8, ("abcdefghijkl", 1, "~!"))))
        source.step(("make", "u", ()))
        source.deal((("put", "u", 4, ()), ("put", "u", 2, ())))
        source.step(("add", "u", "row", "text", "row"))
        ahead = (source.schema, source.state, source.steps)
        source.compact(5)
        again = Source(Disk(source._book.disk.blocks, 0))
        self.same((again.schema, again.state, again.steps, again.entries), (*ahead, ()))

    def test_more_moments_than_a_history_has(self):
        source = founded(Disk(), 1)
        source.step(MAKE)
        for moment in range(2, 260):
            source.deal((put(moment % 5 + 1, "x", moment),))
            if moment % 50 == 0:
                source.compact(moment - 3)
        again = Source(Disk(source._book.disk.blocks, 0))
        self.same((again.moment, again.first, again.state), (259, 247, source.state))
        self.same(again.letters(0, 247)[-1], ("mark", 0, 259, 259))


class Room(Beside):

    def test_as_long_as_it_weighs_at_most_640(self):
        for chance in chances(25):
            story, source = Story(), founded(Disk(), 4)
            keys = tuple(range(1, 40))
            while True:
                after = Story()
                for entry in story.entries:
                    after.tell(entry)
                after.tell(any_deal(chance, story, keys, chance.choice((1, 4, 12))) if story.schema and chance.random() < 0.9
                           else ("step", any_next_step(chance, story.schema, ("make", "add", "name", "call"))))
                if weight(source.first, after) > 640:
                    break
                story = after
                lead(source, story.entries[-1:])
            self.agrees(source, story, source.first)
            for moment in range(story.moment + 1):
                if weight(moment, story) <= 640:
                    again = Source(Disk(source._book.disk.blocks))
                    again.compact(moment)
                    self.agrees(again, story, moment)

    def test_many_small_entries_and_rows_at_the_limit(self):
        for changes in ((), (put(1),), (put(1), put(2), put(3)), tuple(put(key) for key in range(1, 13))):
            story, source = Story(), founded(Disk(), 4)
            story.tell(("step", MAKE))
            source.step(MAKE)
            while weight(source.first, story) + len(entry_text(("deal", changes)).split(" ")) + 3 <= 640:
                story.tell(("deal", changes))
                source.deal(changes)
            self.same(source.moment, story.moment)
            source.compact(source.moment // 2)
            source.compact(source.moment)
            self.agrees(source, story, story.moment)
        story, source = Story(), founded(Disk(), 4)
        lead(source, (("step", MAKE),))
        story.tell(("step", MAKE))
        key = 1
        while weight(source.first, story) + 8 <= 640:
            entry = ("deal", (put(key),))
            story.tell(entry)
            source.deal(entry[1])
            source.compact(source.moment)
            key += 1
        self.assertGreater(key, 70)
        self.agrees(source, story, story.moment)

    def test_no_room_changes_nothing(self):
        source = founded(Disk(), 2)
        source.step(("make", "t", tuple((name, "text") for name in "uvwxyz")))
        wide = tuple(("put", "t", key, ("x" * 12,) * 6) for key in range(1, 13))
        while True:
            ahead, blocks = told_of(source), source._book.disk.blocks
            chunk = source.chunk(1, 2)
            try:
                source.deal(wide)
            except NoRoom as error:
                self.assertIsNone(error.value)
                break
        self.same((told_of(source), source._book.disk.blocks, source._book.disk.waiting), (ahead, blocks, ()))
        self.same(source.chunk_end(chunk)[1], (source.moment, source.moment))
        self.same(told_of(Source(Disk(blocks, 0))), ahead)


class Chunks(Beside):

    def test_numbers(self):
        source = founded(Disk(), 1)
        self.same([source.chunk(1, 1), source.chunk(1, 999999), source.chunk(5, 9)], [1, 2, 3])
        source.chunk_end(2)
        self.same(source.chunk(1, 4), 4)
        self.refused(NoChunk, 2, source.chunk_end, 2)
        self.same(Source(source._book.disk).chunk(1, 1), 1)

    def test_what_is_refused_in_its_sequence(self):
        source = founded(Disk(), 1)
        for key in (0, -1, 1000000, True, False, None, "1", [], (), (1,), {}, 1.0):
            self.refused_with(BadKey, key, source.chunk, key, None)
            self.refused_with(BadKey, key, source.chunk, key, 5)
            self.refused_with(BadKey, key, source.chunk, 5, key)
        self.refused(BadKeys, (5, 4), source.chunk, 5, 4)
        self.refused(BadKeys, (999999, 1), source.chunk, 999999, 1)
        self.same(source.chunk(5, 5), 1)
        for chunk in (0, 2, -1, True, False, None, "1", [], [1], (), (1,), {}, 1.0):
            self.refused_with(NoChunk, chunk, source.chunk_row, chunk)
            self.refused_with(NoChunk, chunk, source.chunk_end, chunk)
        source.chunk_end(1)
        self.refused(NoChunk, 1, source.chunk_row, 1)
        self.refused(NoChunk, 1, source.chunk_end, 1)
        again = Source(source._book.disk)
        self.refused(NoChunk, 1, again.chunk_row, 1)

    def source(self):
        source = founded(Disk(), 1)
        source.step(MAKE)
        source.step(("make", "a", ()))
        source.deal((put(2), put(5), put(9), ("put", "a", 5, ()), ("put", "a", 7, ())))
        return source

    STEPS = (MAKE, ("make", "a", ()))
    FIVE = (5, (("a", ()), ("staff", ("ann", 5))))

    def test_with_no_row_at_all(self):
        source = self.source()
        self.same(source.chunk_end(source.chunk(3, 8)), ("chunk", (3, 3), (3, 2), self.STEPS, ()))
        chunk = source.chunk(3, 4)
        self.assertIs(source.chunk_row(chunk), False)
        self.assertIs(source.chunk_row(chunk), False)
        self.same(source.chunk_end(chunk), ("chunk", (3, 3), (3, 4), self.STEPS, ()))
        new = founded(Disk(), 1)
        self.same(new.chunk_end(new.chunk(1, 9)), ("chunk", (0, 0), (1, 0), (), ()))
        chunk = new.chunk(999999, 999999)
        self.same([new.chunk_row(chunk), new.chunk_end(chunk)], [False, ("chunk", (0, 0), (999999, 999999), (), ())])

    def test_closed_early_and_read_to_the_end(self):
        source = self.source()
        chunk = source.chunk(2, 7)
        self.assertIs(source.chunk_row(chunk), True)
        self.assertIs(source.chunk_row(chunk), True)
        self.same(source.chunk_end(chunk), ("chunk", (3, 3), (2, 5), self.STEPS, ((2, (("staff", ("ann", 2)),)), self.FIVE)))
        chunk = source.chunk(3, 8)
        self.same([source.chunk_row(chunk) for _ in range(4)], [True, True, False, False])
        self.same(source.chunk_end(chunk), ("chunk", (3, 3), (3, 8), self.STEPS, (self.FIVE, (7, (("a", ()),)))))
        chunk = source.chunk(5, 7)
        self.same([source.chunk_row(chunk), source.chunk_row(chunk)], [True, True])
        self.same(source.chunk_end(chunk)[2], (5, 7))

    def test_amid_deals(self):
        source = self.source()
        chunk = source.chunk(1, 9)
        source.chunk_row(chunk)
        source.deal((put(1), put(2, "new", 0), put(3), ("drop", "staff", 5)))
        source.chunk_row(chunk)
        source.chunk_row(chunk)
        source.deal((("drop", "staff", 9), ("drop", "a", 7), put(6)))
        self.same([source.chunk_row(chunk), source.chunk_row(chunk)], [True, False])
        self.same(source.chunk_end(chunk), ("chunk", (3, 5), (1, 9), self.STEPS, (
            (2, (("staff", ("ann", 2)),)), (3, (("staff", ("ann", 3)),)), (5, (("a", ()),)), (6, (("staff", ("ann", 6)),)))))

    def test_rows_that_come_behind_a_false(self):
        source = self.source()
        chunk = source.chunk(6, 8)
        self.same([source.chunk_row(chunk), source.chunk_row(chunk)], [True, False])
        source.deal((put(8), put(6)))
        self.same(source.chunk_row(chunk), True)
        self.same(source.chunk_end(chunk), ("chunk", (3, 4), (6, 8), self.STEPS, ((7, (("a", ()),)), (8, (("staff", ("ann", 8)),)))))
        chunk = source.chunk(3, 6)
        self.same([source.chunk_row(chunk) for _ in range(3)], [True, True, False])
        source.deal((("drop", "a", 7), put(4)))
        self.same(source.chunk_end(chunk)[1:3], ((4, 5), (3, 6)))
        chunk = source.chunk(1, 20)
        while source.chunk_row(chunk):
            pass
        source.deal((put(15), put(18)))
        source.chunk_row(chunk)
        self.same(source.chunk_end(chunk)[1:3], ((5, 6), (1, 15)))

    def test_amid_steps_it_covers_nothing(self):
        for step in (("make", "b", ()), ("gone", "a"), ("call", "a", "b"), ("add", "staff", "x", "int", 1)):
            for ahead in (0, 1, 2):
                source = self.source()
                chunk = source.chunk(2, 9)
                for _ in range(ahead):
                    source.chunk_row(chunk)
                source.step(step)
                if ahead == 2:
                    self.assertIs(source.chunk_row(chunk), True)
                self.same(source.chunk_end(chunk), ("chunk", (3, 4), (2, 1), self.STEPS, ()))

    def test_two_chunks_at_once_and_compacted_amid(self):
        source = self.source()
        one, other = source.chunk(1, 5), source.chunk(4, 9)
        self.same([source.chunk_row(one), source.chunk_row(other)], [True, True])
        source.compact(3)
        self.same([source.chunk_row(one), source.chunk_row(other)], [True, True])
        source.deal(())
        self.same(source.chunk_end(other)[1:4], ((3, 4), (4, 7), self.STEPS))
        self.same(source.chunk_end(one), ("chunk", (3, 4), (1, 5), self.STEPS, ((2, (("staff", ("ann", 2)),)), self.FIVE)))

    def test_against_the_story(self):
        for chance in chances(80):
            story = any_story(chance, chance.randint(1, 8))
            source, _ = source_of(story, 1)
            low = chance.choice((1, 2, 3))
            high = chance.choice((3, 4, 5, 999999))
            chunk, opened, last, over, rows = source.chunk(low, high), story.moment, low - 1, False, []
            for _ in range(chance.randint(0, 10)):
                if chance.random() < 0.4:
                    story.tell(any_deal(chance, story) if story.schema and chance.random() < 0.9
                               else ("step", any_next_step(chance, story.schema)))
                    lead(source, story.entries[-1:])
                    continue
                model = story.models[-1]
                ahead = [key for key in sorted(model) if last < key <= high]
                over = not ahead
                self.assertIs(source.chunk_row(chunk), not over)
                if ahead:
                    last = ahead[0]
                    rows.append((last, tuple((table, values) for table, values in self.key_rows(story, last) if values is not None)))
            keys = (low, high if over else last)
            if story.editions[-1] > story.editions[opened]:
                keys, rows = (low, low - 1), []
            self.same(source.chunk_end(chunk), ("chunk", (opened, story.moment), keys, story.steps[:story.editions[opened]],
                                                tuple(rows)))

    def key_rows(self, story, key):
        return tuple((table, dict(rows).get(key)) for table, rows in story.state(story.moment))


class Together(Beside):

    def test_letters_of_a_source_in_an_inbox_tell_its_history(self):
        for chance in chances(60):
            story, many = any_story(chance, 12), chance.randint(1, 4)
            source, _ = source_of(story, many)
            first = chance.randint(0, 12)
            source.compact(first)
            low = chance.randint(first, 12)
            letters = [letter for partition in range(many) for letter in source.letters(partition, low)]
            chance.shuffle(letters)
            inbox = Inbox(many, low)
            for letter in letters:
                inbox.hear(letter)
            self.same((inbox.newest(), inbox.asks()), (12, ()))
            source = Source(source._book.disk)
            state = state_at(story.entries, low)
            replay = Story()
            for entry in story.entries[:low]:
                replay.tell(entry)
            for moment, entry in inbox.whole():
                while replay.moment < moment - 1:
                    replay.tell(("deal", ()))
                replay.tell(entry)
            while replay.moment < 12:
                replay.tell(("deal", ()))
            self.same(replay.state(12), source.state)
            self.same(replay.state(low), state)
            self.same(seen(replay.entries, 12, 0), seen(story.entries, 12, 0))

    def test_nothing_that_was_handed_in_is_altered(self):
        source = founded(Disk(), 1)
        source.step(MAKE)
        changes, step = [["put", "staff", 1, ["a", 1]]], ["gone", "staff"]
        for function, args in ((source.deal, (changes,)), (source.deal, (tuple(changes),)), (source.step, (step,)),
                               (source.rows, (1, step)), (source.letters, (0, step)), (source.letters, (step, 0)),
                               (source.compact, (step,)), (source.chunk, (step, 1)), (source.chunk_row, (step,)),
                               (source.chunk_end, (step,))):
            with self.assertRaises(MomentError):
                function(*args)
        self.assertEqual((changes, step), ([["put", "staff", 1, ["a", 1]]], ["gone", "staff"]))
        self.same(source.moment, 1)
