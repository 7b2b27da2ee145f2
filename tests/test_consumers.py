"""Section 14: consumers beside a source and its story, and what they keep on their disks."""

import copy

from models import Story
from runs import KEYS, Run, any_views, kept_of, shows_what_is_due, told_of, weight_at
from samples import ANYTHING, Case, NO_VIEWS, VIEW_TEXTS, chances
from test_copies import NO_CHUNKS
from test_source import otherwise
from toldmoment.books import Book
from toldmoment.consumers import Consumer, joined
from toldmoment.disks import Disk
from toldmoment.errors import (
    BadLetter, BadNumber, BadViews, Clash, MomentError, NoBook, NoConsumer, NoEdition, NoRoom, There, Unready,
)
from toldmoment.source import founded

MAKE = ("make", "staff", (("who", "text"), ("pay", "int")))
COUNT, ROWS = ("count", "staff", "pay"), ("rows", "staff", ("who",), ("pay", ">", 5))
VIEWS = (COUNT, ROWS)
WIDE = VIEW_TEXTS[13][0]


def put(key, *values):
    return ("put", "staff", key, values or ("ann", key))


def deal(*changes):
    return ("deal", changes)


class Joined(Case):

    def test_a_new_consumer(self):
        for partitions in (1, 2, 3, 4):
            for edition in (0, 1, 7, 999999999999):
                disk = Disk()
                consumer = joined(disk, partitions, edition, VIEWS)
                self.assertIsInstance(consumer, Consumer)
                wanted = (partitions, edition, VIEWS, None, True, (("keys", 1, 999999),), None)
                self.same(told_of(consumer), wanted)
                self.same(disk.waiting, ())
                again = Disk(disk.blocks, 0)
                self.same(told_of(Consumer(again)), wanted)
                self.same((again.blocks, again.waiting), (disk.blocks, ()))
                self.refused(Unready, None, consumer.tables)

    def test_views_of_all_kinds_are_kept(self):
        texts = [view for view, _ in VIEW_TEXTS]
        for at in range(len(texts)):
            for views in (tuple(texts[at:at + 1]), tuple((texts + texts)[at:at + 4]), (texts[at],) * 2, (WIDE, texts[at], WIDE, WIDE)):
                disk = Disk()
                self.same(joined(disk, 1, 0, views).views, views)
                self.same(Consumer(Disk(disk.blocks, 0)).views, views)

    def test_what_is_refused_in_its_sequence(self):
        lying, none = Disk(), Disk(("a", "b"))
        Book(lying).add(("a",))
        for disk in (Disk(), lying, none):
            blocks = disk.blocks
            for number in (0, 5, -1, *[value for value in ANYTHING if value != 1 or value is True]):
                self.refused_with(BadNumber, number, joined, disk, number, None, None)
            for edition in (-1, True, False, None, "0", "", [], (), (0,), {}, 1.0, object()):
                self.refused_with(NoEdition, edition, joined, disk, 2, edition, None)
            for views in (*ANYTHING, VIEWS * 3, (COUNT,) * 5, list(VIEWS), COUNT, *[(view,) for view in NO_VIEWS],
                          (COUNT, NO_VIEWS[2]), (COUNT, None)):
                self.refused_with(BadViews, views, joined, disk, 2, 0, views)
            self.same((disk.blocks, disk.waiting), (blocks, ()))
        for blocks in (("a", "b"), ("", "", "x")):
            disk = Disk(blocks)
            self.refused(NoBook, None, joined, disk, 2, 0, VIEWS)
            self.refused(NoBook, None, Consumer, disk)
            self.same((disk.blocks, disk.waiting), (blocks, ()))
        for disk in (lying, Disk(lying.blocks, 0)):
            self.refused(There, None, joined, disk, 2, 0, VIEWS)
        self.same(Book(lying).records, (("a",),))
        self.same(joined(Disk(("old one",)), 2, 0, VIEWS).views, VIEWS)

    def test_there_beside_a_consumer_or_a_source(self):
        disk, other = Disk(), Disk()
        consumer = joined(disk, 2, 0, VIEWS)
        founded(other, 2)
        for its in (disk, other):
            blocks = its.blocks
            self.refused(There, None, joined, its, 1, 1, VIEWS)
            self.refused(There, None, founded, its, 1)
            self.same((its.blocks, its.waiting), (blocks, ()))
        self.same(told_of(Consumer(disk)), told_of(consumer))

    def test_by_name(self):
        consumer = joined(views=VIEWS, edition=0, partitions=1, disk=Disk())
        self.assertIsNone(consumer.hear(letter=("chunk", (0, 0), (1, 999999), (), ())))
        self.assertIsNone(consumer.move(views=(COUNT,), edition=0))
        self.same(consumer.tables(), (("unfit",),))
        disk = Disk()
        joined(disk, 2, 0, VIEWS)
        self.same(Consumer(disk=disk).partitions, 2)


HEAD, VIEW, PAST = ("consumer", "1", "1", "9"), ("view", "count", "a", "x"), ("past", "make", "a", "x", "int")
NO_CONSUMERS = (
    (), ((),), (("a",),), (HEAD,), (VIEW,), (VIEW, HEAD), (("consumer", "1", "1", "none"),), (("consumer", "1", "1"), VIEW),
    (("consumer", "1", "1", "none", "1"), VIEW), (("consumer", "0", "1", "none"), VIEW), (("consumer", "5", "1", "none"), VIEW),
    (("consumer", "1", "-1", "none"), VIEW), (("consumer", "1", "x", "none"), VIEW), (("consumer", "01", "1", "none"), VIEW),
    (("consumer", "1", "01", "none"), VIEW), (("consumer", "1", "1", "None"), VIEW), (("consumer", "1", "1", "-1"), VIEW),
    (("consumer", "1", "1", "09"), VIEW, PAST), (("consumer", "none", "1", "none"), VIEW), (("consumer", "1", "none", "none"), VIEW),
    (("consumer", "1", "1", "none"), ("view",)), (("consumer", "1", "1", "none"), ("view", "rows")), (("consumer", "1", "1", "-1"), VIEW, PAST),
    (("consumer", "1", "1", "none"), ("view", "rows", "a")), (("source", "1", "1", "none"), VIEW), (("consumer", "1", "1", "none"), ("past", *VIEW[1:])),
    (("consumer", "1", "1", "none"), ("view", "count", "a")),
    (("consumer", "1", "1", "none"), *[VIEW] * 5), (("consumer", "1", "1", "none"), VIEW, ("views",)),
    (("consumer", "1", "1", "none"), ("view", "rows", "a", "-")), (("consumer", "1", "1", "none"), ("view", "rows", "a", "x")),
    (("consumer", "1", "1", "none"), ("view", "rows", "a", "2", "x")), (("consumer", "1", "1", "none"), ("view", "rows", "a", "-1", "x")),
    (("consumer", "1", "1", "none"), ("view", "rows", "a", "1", "x", "if")), (("consumer", "1", "1", "none"), ("view", "rows", "a", "1", "x,y")),
    (("consumer", "1", "1", "none"), ("view", "rows", "a", "0", "if", "x", "<", "none")), (("consumer", "1", "1", "none"), VIEW, PAST),
    (("consumer", "1", "1", "none"), ("view", "rows", "a", "0", "x")), (("consumer", "1", "1", "none"), VIEW, ("row", "a", "1", "1")),
    (("consumer", "1", "1", "0"), VIEW, PAST), (("consumer", "1", "1", "1"), VIEW, PAST, ("row", "a", "1", "1")),
    (HEAD, VIEW, ("past", "gone", "a")), (HEAD, VIEW, PAST, PAST), (HEAD, VIEW, PAST, ("row", "b", "1", "1")), (HEAD, PAST, VIEW),
    (HEAD, VIEW, PAST, ("row", "a", "1")), (HEAD, VIEW, PAST, ("row", "a", "1", "'x")), (HEAD, VIEW, ("row", "a", "1", "1"), PAST),
    (HEAD, VIEW, PAST, ("row", "a", "2", "1"), ("row", "a", "1", "1")), (HEAD, VIEW, PAST, ()), (HEAD, VIEW, PAST, ("deal",)),
    (("consumer", "1", "1", "2"), VIEW, PAST, *[("row", "a", str(key), "1") for key in range(1, 14)]),
    (HEAD, VIEW, PAST, ("row", "a", "1", "1"), VIEW), (("source", "0", "0"),), (HEAD, VIEW, PAST, HEAD),
)


class NoConsumerThere(Case):
    """Books that no consumer wrote."""

    def is_none(self, records):
        disk = Disk()
        Book(disk).anew(records)
        for left in (None, 0):
            other = Disk(disk.blocks, left)
            self.refused(NoConsumer, None, Consumer, other)
            self.same((other.blocks, other.waiting, other.left), (disk.blocks, (), left))
            self.same(Book(other).records, records)

    def test_records_that_no_consumer_writes(self):
        for records in NO_CONSUMERS:
            with self.subTest(records):
                self.is_none(records)

    def test_records_that_a_consumer_can_have_written(self):
        for records, moment in (
            ((("consumer", "1", "1", "1"), VIEW, PAST), 1), ((("consumer", "1", "0", "0"), VIEW), 0), ((("consumer", "1", "1", "none"), VIEW), None),
            ((("consumer", "1", "1", "2"), VIEW, PAST, *[("row", "a", str(key), "1") for key in range(1, 13)]), 2),
            ((("consumer", "1", "1", "3"), VIEW, PAST, *[("row", "a", str(key), "1") for key in range(1, 14)]), 3),
        ):
            disk = Disk()
            Book(disk).anew(records)
            self.same(Consumer(Disk(disk.blocks, 0)).moment, moment)

    def test_disks_without_records(self):
        empty = Disk()
        Book(empty)
        for blocks in ((), ("old",), empty.blocks):
            for left in (None, 0):
                disk = Disk(blocks, left)
                self.refused(NoConsumer, None, Consumer, disk)
                self.same((disk.blocks, disk.waiting, disk.left), (blocks, (), left))

    def test_records_of_a_consumer_with_something_of_them_otherwise(self):
        refused = 0
        for chance in chances(300):
            run = Run(self, chance)
            consumer, disk = run.joined(chance.randint(0, 3), any_views(chance, run.story))
            if chance.random() < 0.8:
                run.settles(consumer)
            records = otherwise(chance, Book(disk).records)
            other = Disk()
            Book(other).anew(records)
            try:
                found = Consumer(Disk(other.blocks, 0))
            except MomentError:
                refused += 1
                self.is_none(records)
            else:
                found = Consumer(other)
                self.assertIn(found.partitions, (1, 2, 3, 4))
                if found.moment is not None:
                    self.assertEqual(len(found.tables()), len(found.views))
                    found.move(0, found.views)
                    self.same(told_of(Consumer(Disk(other.blocks, 0))), told_of(found))
        self.assertGreater(refused, 100)


class Copying(Case):
    """What a consumer asks, shows and is, from letter to letter."""

    def is_at(self, consumer, moment, is_copying, asks):
        self.same((consumer.moment, consumer.is_copying, consumer.asks()), (moment, is_copying, asks))

    def source(self, partitions=2):
        run = Run(self, chances(1)[0], partitions, 0)
        run.lead(("step", MAKE), deal(put(1), put(2)), deal(put(3)))
        return run

    def test_from_nothing_to_the_newest(self):
        run = self.source()
        consumer, disk = run.joined(1, VIEWS)
        for letter in (*run.source.letters(0, 0), *run.source.letters(1, 0)):
            consumer.hear(letter)
        self.is_at(consumer, None, True, (("keys", 1, 999999),))
        first = run.chunk(1, 999999, 2)
        run.lead(deal(put(2, "bob", 9)))
        second = run.chunk(3)
        self.same((first[1:3], second[1:3]), (((3, 3), (1, 2)), ((4, 4), (3, 999999))))
        consumer.hear(second)
        self.is_at(consumer, None, True, (("keys", 1, 999999),))
        consumer.hear(first)
        self.is_at(consumer, None, True, (("keys", 3, 999999), ("letters", 0, 3), ("letters", 1, 3)))
        consumer.hear(first)
        consumer.hear(run.source.letters(1, 3)[0])
        self.is_at(consumer, None, True, (("keys", 3, 999999), ("letters", 0, 3), ("letters", 1, 4)))
        consumer.hear(second)
        self.is_at(consumer, None, True, (("letters", 0, 3), ("letters", 1, 4)))
        self.same(told_of(Consumer(Disk(disk.blocks, 0)))[3:], (None, True, (("keys", 1, 999999),), None))
        consumer.hear(run.source.letters(0, 3)[-1])
        self.is_at(consumer, 4, False, (("letters", 0, 4), ("letters", 1, 4)))
        self.same(consumer.tables(), (((1, 1), (3, 1), (9, 1)), ((2, ("bob",)),)))
        self.same(kept_of(Consumer(Disk(disk.blocks, 0))), kept_of(consumer))

    def test_it_goes_on_by_the_letters_of_its_copy(self):
        run = self.source()
        consumer, _ = run.joined(1, VIEWS)
        consumer.hear(run.chunk(1, 999999, 2))
        run.lead(deal(put(1)), deal(put(2, "x", 0)), deal(put(1, "y", 0)))
        run.lead(deal(("drop", "staff", 1)), ("step", ("name", "staff", "pay", "wage")))
        for letter in (*run.source.letters(0, 3), *run.source.letters(1, 3)):
            consumer.hear(letter)
        self.is_at(consumer, None, True, (("keys", 3, 999999), ("letters", 0, 8), ("letters", 1, 8)))
        rest = ("chunk", (3, 4), (3, 999999), (MAKE,), ((3, (("staff", ("ann", 3)),)),))
        consumer.hear(rest)
        self.is_at(consumer, 8, False, (("letters", 0, 8), ("letters", 1, 8)))
        shows_what_is_due(self, consumer, run.story)

    def test_chunks_and_olds_that_change_nothing(self):
        run = self.source()
        consumer, disk = run.joined(1, VIEWS)
        low = run.chunk()
        run.lead(deal(put(4)))
        run.settles(consumer)
        ahead, blocks = told_of(consumer), disk.blocks
        for letter in (low, run.chunk(), ("old", 0, 0), ("old", 1, 4), ("old", 0, 3), *run.source.letters(0, 0), ("mark", 1, 4, 4)):
            consumer.hear(letter)
            self.same((told_of(consumer), disk.blocks), (ahead, blocks))

    def test_a_chunk_of_a_later_moment_changes_nothing_where_none_is_copied(self):
        run = self.source()
        consumer, _ = run.joined(1, VIEWS)
        run.settles(consumer)
        run.lead(deal(put(1)), deal(put(2)), deal(put(2, "z", 9)))
        consumer.hear(run.source.letters(0, 3)[0])
        ahead = told_of(consumer)
        self.same(ahead[5], (("letters", 0, 4), ("letters", 1, 3)))
        consumer.hear(run.chunk())
        self.same(told_of(consumer), ahead)
        run.settles(consumer)
        shows_what_is_due(self, consumer, run.story)

    def test_letters_up_to_where_it_stands_tell_nothing_new(self):
        run = self.source()
        consumer, _ = run.joined(1, VIEWS)
        run.settles(consumer)
        run.lead(deal(put(1)), deal(put(2)))
        run.settles(consumer)
        ahead = told_of(consumer)
        for letter in (("deal", 0, 4, 3, (put(1, "other", 1),)), ("step", 0, 4, 3, MAKE), ("mark", 1, 5, 3), ("mark", 0, 4, 0)):
            consumer.hear(letter)
            self.same(told_of(consumer), ahead)

    def test_it_copies_anew_behind_an_old_and_shows_what_it_showed(self):
        run = self.source()
        consumer, disk = run.joined(1, VIEWS)
        run.settles(consumer)
        stale = run.chunk()
        run.lead(deal(put(1, "z", 7)), deal(put(3)), ("step", ("cut", "staff", "who", "gone")))
        shown = consumer.tables()
        held = run.source.letters(0, 3)[0]
        consumer.hear(held)
        self.is_at(consumer, 3, False, (("letters", 0, 4), ("letters", 1, 3)))
        run.source.compact(5)
        consumer.hear(("old", 1, 3))
        self.is_at(consumer, 3, False, (("letters", 0, 4), ("letters", 1, 3)))
        consumer.hear(run.source.letters(1, 3)[0])
        self.is_at(consumer, 3, True, (("keys", 1, 999999),))
        self.same(consumer.tables(), shown)
        self.same(told_of(Consumer(Disk(disk.blocks, 0)))[3:6], (3, False, (("letters", 0, 3), ("letters", 1, 3))))
        consumer.hear(("old", 0, 99))
        consumer.hear(held)
        self.is_at(consumer, 3, True, (("keys", 1, 999999),))
        # One that begins below where it stands does not count; that at which it stands does.
        consumer.hear(("chunk", (2, 9), *stale[2:]))
        self.is_at(consumer, 3, True, (("keys", 1, 999999),))
        consumer.hear(("chunk", (3, 3), (1, 2), (MAKE,), stale[4][:2]))
        self.is_at(consumer, 3, True, (("keys", 3, 999999), ("letters", 0, 3), ("letters", 1, 3)))
        self.same(consumer.tables(), shown)
        consumer.hear(("old", 0, 3))
        self.is_at(consumer, 3, True, (("keys", 3, 999999), ("letters", 0, 3), ("letters", 1, 3)))
        consumer.hear(("old", 0, 4))
        self.is_at(consumer, 3, True, (("keys", 1, 999999),))
        run.settles(consumer)
        self.same(consumer.moment, 6)
        self.same(consumer.tables(), (((2, 1), (3, 1), (7, 1)), ((1, ("gone",)),)))

    def test_an_old_lets_go_a_copy_whose_letters_are_gone(self):
        run = self.source()
        consumer, _ = run.joined(1, VIEWS)
        consumer.hear(run.chunk(1, 999999, 1))
        run.lead(deal(put(1)), deal(put(2)))
        consumer.hear(run.source.letters(0, 3)[0])
        self.is_at(consumer, None, True, (("keys", 2, 999999), ("letters", 0, 4), ("letters", 1, 3)))
        for letter in (("old", 0, 4), ("old", 1, 3), ("old", 0, 0)):
            consumer.hear(letter)
            self.is_at(consumer, None, True, (("keys", 2, 999999), ("letters", 0, 4), ("letters", 1, 3)))
        consumer.hear(("old", 1, 4))
        self.is_at(consumer, None, True, (("keys", 1, 999999),))
        consumer.hear(("old", 1, 9))
        self.is_at(consumer, None, True, (("keys", 1, 999999),))
        run.settles(consumer)

    def test_an_edition_that_is_still_to_come(self):
        run = self.source(1)
        late = ("count", "staff", "room")
        consumer, disk = run.joined(3, (late, COUNT))
        for entry in (deal(put(5)), ("step", ("add", "staff", "room", "int", 4)), ("step", ("cut", "staff", "pay", None))):
            run.settles(consumer)
            self.assertIsNone(consumer.moment)
            self.refused(Unready, None, consumer.move, 0, VIEWS)
            again = Consumer(Disk(disk.blocks, 0))
            self.same((again.moment, again.is_copying, again.asks()), (None, False, consumer.asks()))
            run.lead(entry)
        run.settles(consumer)
        self.same((consumer.moment, consumer.tables()), (6, (((4, 4),), ("unfit",))))
        run.lead(("step", ("gone", "staff")))
        run.settles(consumer)
        self.same(consumer.tables(), ((), ("unfit",)))

    def test_a_source_without_tables(self):
        run = Run(self, chances(1)[0], 2, 0)
        consumer, disk = run.joined(0, VIEWS)
        consumer.hear(run.chunk())
        self.is_at(consumer, 0, False, (("letters", 0, 0), ("letters", 1, 0)))
        self.same(consumer.tables(), (("unfit",), ("unfit",)))
        self.same(told_of(Consumer(Disk(disk.blocks, 0))), told_of(consumer))
        run.lead(deal(), ("step", MAKE), deal(put(1)))
        run.settles(consumer)
        self.same((consumer.moment, consumer.tables()), (3, (("unfit",), ("unfit",))))
        consumer.move(1, VIEWS)
        self.same(consumer.tables(), (((1, 1),), ()))

    def test_a_mark_alone_leads_on(self):
        run = self.source()
        consumer, disk = run.joined(1, VIEWS)
        run.settles(consumer)
        run.lead(deal())
        for partition in (0, 1):
            consumer.hear(run.source.letters(partition, 3)[-1])
        self.same((consumer.moment, Consumer(Disk(disk.blocks, 0)).moment), (4, 4))


class Moves(Case):

    def test_to_each_edition(self):
        for chance in chances(60):
            run = Run(self, chance, steps=0.4, least=2)
            consumer, disk = run.joined(chance.randint(0, run.story.editions[-1]), any_views(chance, run.story))
            run.settles(consumer)
            for edition in chance.sample(range(run.story.editions[-1] + 1), run.story.editions[-1] + 1):
                views = any_views(chance, run.story)
                moment, asks = consumer.moment, consumer.asks()
                self.assertIsNone(consumer.move(edition, views))
                self.same((consumer.edition, consumer.views, consumer.moment, consumer.asks()), (edition, views, moment, asks))
                shows_what_is_due(self, consumer, run.story)
                self.same(disk.waiting, ())
                self.same(told_of(Consumer(Disk(disk.blocks, 0))), told_of(consumer))
            run.write()
            run.settles(consumer)

    def test_amid_letters_and_copies(self):
        run = Run(self, chances(1)[0], 2, 0)
        run.lead(("step", MAKE), deal(put(1), put(2)))
        consumer, _ = run.joined(1, VIEWS)
        run.settles(consumer)
        run.lead(deal(put(1, "x", 9), put(2, "y", 9)), ("step", ("name", "staff", "pay", "wage")))
        consumer.hear(run.source.letters(0, 2)[0])
        self.refused(NoEdition, 2, consumer.move, 2, VIEWS)
        consumer.move(0, (ROWS,))
        self.same((consumer.tables(), consumer.asks()), ((("unfit",),), (("letters", 0, 3), ("letters", 1, 2))))
        consumer.hear(("old", 0, 4))
        consumer.move(1, (ROWS,))
        self.same((consumer.tables(), consumer.is_copying), (((),), True))
        consumer.hear(run.chunk(1, 999999, 1))
        consumer.move(1, VIEWS)
        self.same(consumer.asks(), (("keys", 2, 999999), ("letters", 0, 4), ("letters", 1, 4)))
        run.settles(consumer)
        consumer.move(2, (("count", "staff", "wage"),))
        self.same(consumer.tables(), (((9, 2),),))

    def test_what_is_refused_in_its_sequence(self):
        run = Run(self, chances(1)[0], 1, 0)
        consumer, disk = run.joined(1, VIEWS)
        for edition in (0, None, 9):
            self.refused(Unready, None, consumer.move, edition, VIEWS)
            self.refused(Unready, None, consumer.move, edition, None)
        run.settles(consumer)
        self.refused(Unready, None, consumer.move, 0, VIEWS)
        run.lead(("step", MAKE), ("step", ("gone", "staff")))
        run.settles(consumer)
        ahead, blocks = told_of(consumer), disk.blocks
        for edition in (3, -1, *[value for value in ANYTHING if type(value) is not int or value in (-1, 12)]):
            self.refused_with(NoEdition, edition, consumer.move, edition, None)
        for views in (*ANYTHING, (COUNT,) * 5, list(VIEWS), COUNT, *[(view,) for view in NO_VIEWS], (COUNT, None)):
            for edition in (0, 1, 2):
                self.refused_with(BadViews, views, consumer.move, edition, views)
        self.same((told_of(consumer), disk.blocks, disk.waiting), (ahead, blocks, ()))


class Letters(Case):
    """Letters and chunks in whatever sequence, twice, late or never."""

    def test_beside_a_source(self):
        stood = copied = 0
        for chance in chances(150):
            run = Run(self, chance, many=10, least=1)
            edition = chance.randint(0, run.story.editions[-1] + 1)
            consumer, disk = run.joined(edition, any_views(chance, run.story))
            for _ in range(chance.randint(5, 25)):
                moved = chance.random()
                if moved < 0.3:
                    run.write()
                elif moved < 0.4:
                    run.source.compact(chance.randint(run.source.first, run.story.moment))
                elif moved < 0.5 and consumer.moment is not None:
                    newest = run.story.editions[consumer.moment]
                    consumer.move(chance.randint(0, newest), any_views(chance, run.story))
                elif moved < 0.55:
                    consumer = self.again(run, consumer, disk)
                elif moved < 0.6:
                    run.bag.extend(run.source.letters(chance.randrange(run.partitions), chance.randint(0, run.story.moment)))
                else:
                    self.some_are_heard(run, consumer)
                self.same(disk.waiting, ())
            stood += consumer.moment is not None
            copied += consumer.is_copying
            run.settles(consumer)
            consumer = self.again(run, consumer, disk)
            run.settles(consumer)
        self.assertGreater(min(stood, copied), 20)

    def some_are_heard(self, run, consumer):
        chance = run.chance
        letters = run.answers(consumer.asks(), chance.choice((0, 0.3)))
        letters = [letter for letter in letters if chance.random() < 0.75]
        letters += chance.sample(run.bag, min(len(run.bag), chance.choice((0, 1, 4))))
        if chance.random() < 0.6:
            letters = chance.sample(letters, len(letters))
        run.hears(consumer, [letter for letter in letters for _ in range(chance.choice((1, 1, 2)))])

    def again(self, run, consumer, disk):
        """Opens the consumer anew, beside what it was."""
        found = Consumer(disk)
        self.same(kept_of(found), kept_of(consumer))
        shows_what_is_due(self, found, run.story)
        if found.is_copying:
            self.same((found.moment, found.asks()), (None, (("keys", 1, 999999),)))
        else:
            self.assertEqual(len({reach for _, _, reach in found.asks()}), 1)
        return found

    def test_a_letter_heard_twice_is_heard_once(self):
        for chance in chances(60):
            run = Run(self, chance, many=10, least=1)
            edition, views = chance.randint(0, run.story.editions[-1]), any_views(chance, run.story)
            (one, mine), (two, other) = run.joined(edition, views), run.joined(edition, views)
            for _ in range(6):
                letters = run.answers(one.asks(), 0.3)
                for letter in chance.sample(letters, len(letters)):
                    one.hear(letter)
                    two.hear(letter)
                    two.hear(letter)
                    self.same(told_of(two), told_of(one))
                    self.same(other.blocks == mine.blocks, True)

    def test_two_at_one_moment_show_the_same(self):
        for chance in chances(60):
            run = Run(self, chance, many=10, least=1)
            edition, views = chance.randint(0, run.story.editions[-1]), any_views(chance, run.story)
            one, _ = run.joined(edition, views)
            run.settles(one)
            for _ in range(chance.randint(0, 5)):
                run.write()
            two, _ = run.joined(edition, views)
            run.settles(two)
            run.settles(one)
            self.same((one.moment, one.tables()), (two.moment, two.tables()))

    def test_all_ways_of_hearing_lead_to_the_same(self):
        for chance in chances(40):
            run = Run(self, chance, many=4, least=1)
            consumer, disk = run.joined(0, any_views(chance, run.story))
            run.settles(consumer)
            moment = run.story.moment
            for _ in range(5):
                run.write()
            letters = [letter for partition in range(run.partitions) for letter in run.source.letters(partition, moment)]
            told = []
            for _ in range(4):
                other = Consumer(Disk(disk.blocks))
                run.hears(other, chance.sample(letters, len(letters)))
                told.append(told_of(other))
            self.assertEqual(told[0][3], run.story.moment)
            self.same(told[1:], told[:1] * 3)


class Refused(Case):

    def consumers(self):
        """One that is new, one amid its copy, one that stands, one that copies anew."""
        run = Run(self, chances(1)[0], 2, 0)
        run.lead(("step", MAKE), deal(put(1), put(2)))
        some = [run.joined(1, VIEWS) for _ in range(4)]
        some[1][0].hear(run.chunk(1, 999999, 1))
        run.settles(some[2][0])
        run.settles(some[3][0])
        some[3][0].hear(("old", 0, 9))
        return run, some

    def test_what_is_no_letter(self):
        _, some = self.consumers()
        letters = (
            *ANYTHING, *[value for value in NO_CHUNKS if value[:1] not in (("mark",), ("old",), ("deal",), ("step",))],
            ("mark", 2, 3, 2), ("mark", -1, 3, 2), ("mark", True, 3, 2), ("mark", 0, 0, 0),
            ("mark", 0, 2, 3), ("mark", 0, 3), ("mark", 0, 3, 2, 1), ("deal", 0, 3, 2, ()), ("deal", 0, 3, 2, (("drop", "staff", 2),)),
            ("deal", 1, 3, 3, (("drop", "staff", 2),)), ("deal", 2, 3, 2, (("drop", "staff", 1),)), ("step", 0, 3, 2, ("gone", "A")),
            ("step", 0, 3, 3, ("gone", "a")), ("step", 2, 3, 2, ("gone", "a")), ("old",), ("old", 0), ("old", 0, -1), ("old", 2, 1),
            ("old", -1, 1), ("old", True, 1), ("old", 0, True), ("old", 0, None), ("old", 0, 1, 2), ("old", None, 1), ["old", 0, 1],
            ("old", "0", 1), (("old",), 0, 1), ("Old", 0, 1), ("keys", 1, 999999), ("letters", 0, 2), ("old", 0, "1"), ("old", 0, 1.0),
        )
        for consumer, disk in some:
            ahead, blocks = told_of(consumer), disk.blocks
            for letter in letters:
                self.refused_with(BadLetter, letter, consumer.hear, letter)
            self.same((told_of(consumer), disk.blocks), (ahead, blocks))

    def test_what_clashes(self):
        _, some = self.consumers()
        held, other = ("deal", 0, 5, 4, (("drop", "staff", 1),)), ("deal", 0, 5, 4, (put(1),))
        for at, (consumer, _) in enumerate(some):
            consumer.hear(held)
            ahead = told_of(consumer)
            for letter, value in ((other, (0, 5)), (("mark", 0, 6, 4), (0, 6)), (("step", 1, 5, 4, ("gone", "staff")), (1, 5))):
                if at in (1, 2):
                    self.refused(Clash, value, consumer.hear, letter)
                else:
                    self.assertIsNone(consumer.hear(letter))
                self.same(told_of(consumer), ahead)

    def test_nothing_that_was_handed_in_is_altered(self):
        run, some = self.consumers()
        letters = [*run.bag, run.chunk(), ("old", 0, 1), *run.source.letters(0, 0)]
        ahead = copy.deepcopy(letters)
        for consumer, _ in some:
            for letter in letters:
                consumer.hear(letter)
            consumer.asks()
        self.same(letters, ahead)
        for value in ANYTHING:
            told = repr(value)
            for consumer, _ in some:
                for function in (lambda: consumer.hear(value), lambda: consumer.move(0, value), lambda: consumer.move(value, VIEWS),
                                 lambda: joined(Disk(), value, 0, VIEWS), lambda: joined(Disk(), 1, value, value)):
                    try:
                        function()
                    except MomentError:
                        pass
            self.assertEqual(repr(value), told)

    def test_equal_calls_tell_the_same(self):
        _, some = self.consumers()
        for consumer, disk in some:
            self.same(told_of(consumer), told_of(consumer))
            self.same(kept_of(Consumer(Disk(disk.blocks))), kept_of(Consumer(Disk(disk.blocks))))


class Room(Case):

    def heavy(self, run, most):
        """Leads the source on as long as the consumer that stands there has at most so much."""
        chance = run.chance
        while True:
            ahead = run.story
            longer = Story()
            for entry in ahead.entries:
                longer.tell(entry)
            table, columns = chance.choice(ahead.schema)
            keys = chance.sample(range(1, 400), 3)
            longer.tell(("deal", tuple(
                ("put", table, key, tuple("~" * 12 if kind == "text" else -99999999999 for _, kind in columns)) for key in keys)))
            if weight_at(longer, longer.moment) > most:
                return
            run.lead(longer.entries[-1])

    def test_as_long_as_it_has_at_most_640(self):
        wide = tuple((name, "text") for name in "uvwxyz")
        for chance, tables in zip(chances(6), ((wide,), (wide[:2],), ((),), (wide[:1], wide), (wide[:3],), (wide[:5], ()))):
            run = Run(self, chance, chance.randint(1, 4), 0)
            for name, columns in zip("ab", tables):
                run.lead(("step", ("make", name, columns)))
            consumer, disk = run.joined(1, (WIDE,) * 4)
            for _ in range(3):
                self.heavy(run, 640)
                self.assertGreater(weight_at(run.story, run.story.moment), 580)
                run.settles(consumer)
                consumer.move(0, (WIDE,) * 3)
                consumer.move(1, (WIDE,) * 4)
                consumer = Consumer(disk)
                consumer.hear(("old", 0, 10 ** 6))
                run.settles(consumer)
                changes = [("drop", table, key) for table, rows in run.story.state(run.story.moment) for key, _ in rows]
                run.lead(*[("deal", tuple(changes[at:at + 12])) for at in range(0, len(changes), 12)])

    def test_beyond_it_what_is_shown_is_due(self):
        raised = 0
        for chance in chances(6):
            run = Run(self, chance, 1, 0)
            run.lead(("step", ("make", "a", tuple((name, "text") for name in "uvwxyz"))))
            consumer, disk = run.joined(1, (("count", "a", "u"),))
            run.settles(consumer)
            for number in range(1, 60):
                run.lead(("deal", tuple(("put", "a", number * 12 + at, ("~" * 12,) * 6) for at in range(12))))
                ahead = kept_of(consumer)
                try:
                    for letter in run.source.letters(0, consumer.moment):
                        consumer.hear(letter)
                except NoRoom as error:
                    raised += 1
                    self.assertIsNone(error.value)
                    self.assertGreater(weight_at(run.story, run.story.moment), 640)
                    self.same(kept_of(consumer), ahead)
                    shows_what_is_due(self, consumer, run.story)
                    self.same(kept_of(Consumer(Disk(disk.blocks))), ahead)
                    break
                except MomentError:
                    self.fail()
                if run.source._book.disk.blocks.count("") > 990:
                    break
                run.source.compact(run.story.moment)
        self.assertGreater(raised, 0)


    def test_what_was_done_ahead_of_no_room_stands(self):
        for chance, partitions in zip(chances(3), (1, 2, 4)):
            run = Run(self, chance, partitions, 0)
            run.lead(("step", ("make", "a", ())))
            consumer, disk = run.joined(1, (("rows", "a", (), None),))
            run.settles(consumer)
            for number in range(60):
                run.lead(("deal", tuple(("put", "a", 1 + number * 12 + at, ()) for at in range(12))))
            letters = [letter for partition in range(partitions) for letter in run.source.letters(partition, 1)]
            with self.assertRaises(NoRoom) as caught:
                for letter in letters[::-1]:
                    consumer.hear(letter)
            self.assertIsNone(caught.exception.value)
            self.assertGreater(weight_at(run.story, consumer.moment + 1), 640)
            shows_what_is_due(self, consumer, run.story)
            self.same(kept_of(Consumer(Disk(disk.blocks, 0))), kept_of(consumer))
            self.same(disk.waiting, ())
            moment = consumer.moment
            self.refused(NoRoom, None, consumer.hear, ("mark", 0, run.story.moment, run.story.moment))
            self.assertEqual(consumer.moment, moment)
            shows_what_is_due(self, consumer, run.story)


class Keys(Case):

    def test_many_keys_by_chunks_of_a_few(self):
        for chance in chances(12):
            run = Run(self, chance, many=2, steps=0)
            for _ in range(6):
                run.write(keys=tuple(range(1, 30)) + KEYS)
            consumer, _ = run.joined(0, any_views(chance, run.story))
            for _ in range(60):
                if not consumer.is_copying:
                    break
                for word, one, other in consumer.asks():
                    if word == "keys":
                        run.hears(consumer, [run.chunk(one, other, chance.randint(0, 2), 0.2)])
                    else:
                        run.hears(consumer, run.source.letters(one, other))
            run.settles(consumer)
