"""Section 8: books, that stand any cut, wherever the disk falls."""

from falls import any_fates, each_fates, falls_of
from samples import ANYTHING, Case, chances
from toldmoment.books import Book
from toldmoment.disks import Disk
from toldmoment.errors import BadRecord, BadRecords, Fallen, MomentError, NoBook, NoRoom

WIDE = ("".join(chr(33 + at) for at in range(40)),) * 200
NO_RECORDS = (None, True, "a", 1, [], ["a"], {}, ("",), ("a b",), ("x" * 41,), (1,), (None,), (("a",),), (["a"],), ("a\n",),
              ("a", ""), ("\x7f",), ("\xe9",), ("a",) * 201, ("new", True), (" ",), object())


def words(many, signs=40):
    return ("w" * signs,) * many


def takes(record):
    return len(record) // 2 + 1


def book_of(*records):
    """The blocks of a disk on which a book with these records lies."""
    disk = Disk()
    book = Book(disk)
    for record in records:
        book.add(record)
    return disk.blocks


def any_record(chance):
    many = chance.choice((0, 1, 2, 3, 5, 12, chance.randint(0, 200)))
    return tuple("".join(chance.choice("!~'a0 9;".replace(" ", "z")) for _ in range(chance.choice((1, 2, 13, 40))))
                 for _ in range(many))


class Opened(Case):

    def test_a_new_disk(self):
        disk = Disk()
        book = Book(disk)
        self.assertIs(book.disk, disk)
        self.same((book.records, disk.waiting), ((), ()))
        self.same(Book(Disk(disk.blocks, 0)).records, ())

    def test_a_disk_with_signs_at_place_0_alone_that_are_none_of_a_book(self):
        made = Disk()
        Book(made)
        for text in ("old", "old one", " ", "x" * 120, "0", "000", "004 ", "005 x", made.blocks[0][:-1], made.blocks[0] + " ",
                     made.blocks[0][:1], " " + made.blocks[0]):
            with self.subTest(text):
                disk = Disk((text,))
                book = Book(disk)
                self.same((book.records, disk.waiting), ((), ()))
                book.add(("a",))
                self.same(Book(Disk(disk.blocks, 0)).records, (("a",),))

    def test_no_book(self):
        whole = book_of(("a", "b"))
        for blocks in (("old", "", "x"), ("", "x"), ("", "", "x"), ("old", "x"), ("",) * 999 + ("x",), ("", " "),
                       tuple("x" + text for text in whole), ("",) * 3 + whole):
            for left in (None, 0, 5):
                with self.subTest(blocks[:4], left=left):
                    disk = Disk(blocks, left)
                    self.refused(NoBook, None, Book, disk)
                    self.same((disk.blocks, disk.waiting, disk.left), (Disk(blocks).blocks, (), left))

    def test_no_book_where_a_part_of_it_lacks(self):
        blocks = book_of(("a", "b"), words(5), ("c",))
        for at, text in enumerate(blocks):
            if text != "":
                for other in ("", "x", text[:-1], text + "x"):
                    with self.subTest(text, other=other):
                        disk = Disk((*blocks[:at], other, *blocks[at + 1:]))
                        self.refused(NoBook, None, Book, disk)

    def test_no_book_where_words_are_none_of_a_record(self):
        for text in ("0 new a  b", "0 new a ", "0 new " + "x" * 41, "0 new  ", "0 on a"):
            disk = Disk()
            Book(disk)
            head = "book 2 5"
            blocks = (f"{len(head) + 4:03d} {head}", "", "", "", "", f"{len(text) + 4:03d} {text}")
            with self.subTest(text):
                self.refused(NoBook, None, Book, Disk(blocks))
        text = "0 new a b"
        blocks = (f"{len(head) + 4:03d} {head}", "", "", "", "", f"{len(text) + 4:03d} {text}")
        self.same(Book(Disk(blocks)).records, (("a", "b"),))

    def test_a_book_that_needs_no_mending_is_only_read(self):
        for chance in chances(40):
            disk = Disk()
            book = Book(disk)
            for _ in range(chance.randint(0, 6)):
                if chance.random() < 0.7:
                    book.add(any_record(chance))
                else:
                    book.anew(tuple(any_record(chance) for _ in range(chance.randint(0, 3))))
                self.same(disk.waiting, ())
                again = Disk(disk.blocks, 0)
                self.same(Book(again).records, book.records)
                self.same((again.blocks, again.waiting, again.left), (disk.blocks, (), 0))
                self.same(Book(disk.cut(())).records, book.records)

    def test_by_name(self):
        book = Book(disk=Disk())
        book.add(record=("a",))
        book.anew(records=(("b",), *book.records))
        self.same(book.records, (("b",), ("a",)))


class Deeds(Case):

    def test_add_and_anew(self):
        book = Book(Disk())
        self.assertIsNone(book.add(("put", "a", "5")))
        self.assertIsNone(book.add(()))
        self.assertIsNone(book.add(WIDE))
        self.same(book.records, (("put", "a", "5"), (), WIDE))
        self.assertIsNone(book.anew(((), ("x" * 40,), ())))
        self.same(book.records, ((), ("x" * 40,), ()))
        book.anew(book.records)
        self.same(book.records, ((), ("x" * 40,), ()))
        book.anew(())
        self.same((book.records, Book(book.disk.cut(())).records), ((), ()))
        book.add(("new", "on", "book", "0", "1", "012"))
        self.same(Book(book.disk.cut(())).records, (("new", "on", "book", "0", "1", "012"),))

    def test_records_of_all_kinds_stand(self):
        for chance in chances(60):
            book, records = Book(Disk()), ()
            for _ in range(5):
                record = any_record(chance)
                book.add(record)
                records = (*records, record)
                self.same(book.records, records)
                self.same(Book(book.disk.cut(())).records, records)
            some = tuple(any_record(chance) for _ in range(chance.randint(0, 4)))
            book.anew(some)
            self.same((book.records, Book(book.disk.cut(())).records), (some, some))

    def test_words_of_all_lengths_stand(self):
        ahead = ((),) * 120
        for signs in range(1, 41):
            for most in (("x" * 40,) * 2, ("x" * 40, "y"), ("z",) * 30):
                book = Book(Disk())
                book.anew(ahead)
                record = (*most, "w" * signs, *most)
                book.add(record)
                self.same(Book(book.disk.cut(())).records, (*ahead, record))

    def test_what_is_no_record(self):
        for left in (None, 0):
            disk = Disk(book_of(("a",)), left)
            book, blocks = Book(disk), disk.blocks
            for record in NO_RECORDS:
                with self.subTest(repr(record)[:40]):
                    self.refused_with(BadRecord, record, book.add, record)
                    for records in ((record,), (record, ("a",)), (("a",), record)):
                        self.refused_with(BadRecords, records, book.anew, records)
            for records in ANYTHING:
                if not isinstance(records, tuple):
                    self.refused_with(BadRecords, records, book.anew, records)
            for records in ([], [("a",)], (["a"],), ("a",), (None,), "a"):
                self.refused_with(BadRecords, records, book.anew, records)
            self.same((disk.blocks, disk.waiting, disk.left, book.records), (blocks, (), left, (("a",),)))

    def test_nothing_that_was_handed_in_is_altered(self):
        record = ["a"]
        book = Book(Disk())
        for function, value in ((book.add, record), (book.add, (record,)), (book.anew, record), (book.anew, (record,))):
            with self.assertRaises(MomentError):
                function(value)
        self.assertEqual(record, ["a"])


class Room(Case):

    def test_900_blocks_of_records(self):
        for record in ((), words(1), words(2), words(3), words(40), words(199), words(200)):
            book, many = Book(Disk()), 0
            while many + takes(record) <= 900:
                book.add(record)
                many += takes(record)
            with self.subTest(len(record)):
                self.same(len(book.records), 900 // takes(record))
                self.same(Book(book.disk.cut(())).records, book.records)

    def test_450_blocks_and_450_anew_again_and_again(self):
        for record in ((), words(1), words(2), words(3), words(9), words(198), words(200)):
            many = 450 // takes(record)
            book = Book(Disk())
            for other in ((record,) * many, (record,) * many, (words(3, 1),) * 225, (record,) * many):
                book.anew(other)
                self.same((book.records, Book(book.disk.cut(())).records), (other, other))

    def test_900_blocks_come_and_go(self):
        book = Book(Disk())
        book.anew(((),) * 900)
        book.anew(())
        book.anew((words(200),) * 8)
        self.same(Book(book.disk.cut(())).records, (words(200),) * 8)
        book.anew((words(1),) * 80)
        for _ in range(8):
            book.add(words(200))
        self.same(len(Book(book.disk.cut(())).records), 88)

    def test_no_room_changes_nothing(self):
        book = Book(Disk())
        while True:
            ahead, disk = book.records, Disk(book.disk.blocks)
            try:
                book.add(words(200))
            except NoRoom as error:
                self.assertIsNone(error.value)
                break
        self.assertGreaterEqual(len(ahead), 8)
        self.same((book.records, book.disk == disk, book.disk.waiting), (ahead, True, ()))
        self.refused(NoRoom, None, book.anew, (words(200),) * 8)
        self.refused(NoRoom, None, book.anew, ((),) * 5000)
        self.same((book.records, book.disk == disk, book.disk.waiting), (ahead, True, ()))
        book.add(("a",))
        book.anew((("b",), ("c",)))
        self.same(Book(book.disk.cut(())).records, (("b",), ("c",)))
        full = Book(Disk(disk.blocks, 0))
        self.refused(NoRoom, None, full.add, words(200))
        self.same((full.disk == disk, full.disk.left), (True, 0))


class Falls(Case):

    def stands(self, disk, wanted):
        """Opens a book of these wanted; opened once more it is the same, and nothing is written."""
        book = Book(disk)
        self.assertIn(book.records, wanted)
        self.same(disk.waiting, ())
        again = Disk(disk.blocks, 0)
        self.same(Book(again).records, book.records)
        self.same((again.blocks, again.waiting), (disk.blocks, ()))
        book.add(("more",))
        self.same(Book(disk.cut(())).records, (*again_records(again), ("more",)))

    def falls(self, chance, blocks, deed, ahead, behind):
        fell = 0
        for disk, is_fallen in falls_of(blocks, deed):
            fell += is_fallen
            for fates in each_fates(chance, disk.waiting):
                wanted = (ahead, behind) if is_fallen else (behind,)
                self.stands(disk.cut(fates), wanted)
                for opened, _ in falls_of(disk.cut(fates).blocks, Book):
                    self.stands(opened.cut(any_fates(chance, opened.waiting)), wanted)
        return fell

    STARTS = ((), (("a", "b"),), (("a", "b"), ()), (words(5), ("c",), words(3, 20)))

    def test_a_fall_at_each_write_and_sync_of_an_add(self):
        for chance, records in zip(chances(4), self.STARTS):
            for record in ((), ("one",), words(4), words(9, 33)):
                fell = self.falls(chance, book_of(*records), lambda disk: Book(disk).add(record), records, (*records, record))
                self.assertGreaterEqual(fell, 4)

    def test_a_fall_at_each_write_and_sync_of_an_anew(self):
        for chance, records in zip(chances(4), self.STARTS):
            for other in ((), (("one",),), (words(3), (), ("two",))):
                fell = self.falls(chance, book_of(*records), lambda disk: Book(disk).anew(other), records, other)
                self.assertGreaterEqual(fell, 2)

    def test_a_fall_at_each_write_and_sync_of_an_opening(self):
        for chance, blocks in zip(chances(4), ((), ("old one",), (" " * 120,), ("01",))):
            self.assertGreaterEqual(self.falls(chance, blocks, Book, (), ()), 2)

    def test_a_fall_at_each_write_and_sync_of_an_opening_behind_a_fall(self):
        for chance in chances(6):
            records, other = (words(3), ("a",)), (("b",), words(5))
            for disk, _ in falls_of(book_of(*records), lambda disk: Book(disk).anew(other)):
                found = disk.cut(any_fates(chance, disk.waiting))
                now = Book(Disk(found.blocks)).records
                self.assertIn(now, (records, other))
                self.falls(chance, found.blocks, Book, now, now)

    def test_a_deed_that_falls_behind_one_that_fell(self):
        # Heads and blocks of the deed that fell may be in the way of the next one's, and are as long as those.
        for chance in chances(3):
            records = (("a", "b"), words(3, 9))
            for disk, _ in falls_of(book_of(*records), lambda disk: Book(disk).add(("c", "d"))):
                for fates in ((("all",) * len(disk.waiting)), ("none",) * len(disk.waiting), any_fates(chance, disk.waiting)):
                    found = disk.cut(fates)
                    now = Book(found).records
                    self.falls(chance, disk.cut(fates).blocks, lambda disk: Book(disk).add(("e", "f")), now, (*now, ("e", "f")))
                    self.falls(chance, disk.cut(fates).blocks, lambda disk: Book(disk).anew((("g", "h"),)), now, (("g", "h"),))

    def test_what_stood_at_place_0_is_never_part_of_a_head(self):
        made = Disk()
        Book(made)
        whole = made.blocks[0]
        for at in range(1, len(whole)):
            for sign in "19 x":
                text = "x" * at + sign * (len(whole) - at)
                for disk, _ in falls_of((text,), Book):
                    for fates in each_fates(chances(1)[0], disk.waiting):
                        self.stands(disk.cut(fates), ((),))

    def test_falls_one_behind_another(self):
        for chance in chances(250):
            disk, records = Disk(chance.choice(((), ("old",))), chance.choice((None, 0, 1, 2, 5))), [()]
            book = None
            for _ in range(25):
                try:
                    if book is None:
                        book = Book(disk)
                        self.assertIn(book.records, records)
                        records = [book.records]
                        self.same(disk.waiting, ())
                    record, some = any_record(chance), (("some",) * chance.randint(0, 9),) * chance.randint(0, 3)
                    if chance.random() < 0.6:
                        records = [book.records, (*book.records, record)]
                        book.add(record)
                    else:
                        records = [book.records, some]
                        book.anew(some)
                    records = records[1:]
                    self.same((book.records, disk.waiting), (records[0], ()))
                except Fallen:
                    book, disk = None, Disk(disk.cut(any_fates(chance, disk.waiting)).blocks, chance.randint(0, 20))


def again_records(disk):
    return Book(disk).records
