"""Section 11: chunks that are read amid writing, and what they tell with the entries since, against the source's story."""

import copy

from models import Story, any_deal, any_next_step
from samples import ANYTHING, Case, NO_CHANGES, NO_STEPS, chances
from test_source import lead
from toldmoment.copies import copied, counts, lacking
from toldmoment.disks import Disk
from toldmoment.errors import BadChunks, BadEntries, BadLetter, Lacks
from toldmoment.histories import touched
from toldmoment.source import founded

MAKE = ("make", "a", (("x", "int"),))
ALL = ("chunk", (2, 4), (1, 999999), (MAKE,), ((1, (("a", (5,)),)), (2, (("a", (3,)),))))
KEYS = (1, 2, 3, 4, 5, 6, 7, 999999)


def chunk(low, high, first, last, rows=()):
    return ("chunk", (low, high), (first, last), (MAKE,), rows)


LEFT, RIGHT = chunk(2, 3, 1, 10), chunk(4, 4, 11, 999999)
ROW = (1, (("a", (5,)),))

# What comes near a chunk's letter, and has the form of none.
NO_CHUNKS = (
    (), ("chunk",), ALL[:4], (*ALL, ()), list(ALL), ("chunks", *ALL[1:]), (None, *ALL[1:]), (("chunk",), *ALL[1:]),
    ("mark", 0, 2, 1), ("old", 0, 1), ("deal", 0, 2, 1, (("drop", "a", 1),)), ("step", 0, 1, 0, MAKE),
    *[("chunk", moments, *ALL[2:]) for moments in (
        None, 2, (2,), (2, 4, 5), [2, 4], (4, 2), (-1, 4), (True, 4), (0, True), (False, 1), ("2", "4"), (None, 4), ((), ()), (2.0, 4))],
    *[("chunk", (2, 4), keys, *ALL[3:4], ()) for keys in (
        None, 1, (1,), (1, 2, 3), [1, 2], (0, 2), (1, 1000000), (1000000, 999999), (3, 1), (True, 2), (1, True), ("1", 2),
        (2, False), (1, -1), (2, 0), (1, None), (1, "2"), ((1,), 2))],
    *[(*ALL[:3], steps, ALL[4]) for steps in (None, [MAKE], MAKE, (None,), ([],), "make", 1, ((),), *[(step,) for step in NO_STEPS])],
    *[("chunk", (2, 4), (2, 4), (MAKE,), rows) for rows in (
        None, [], 1, "a", (None,), ((2,),), ([2, (("a", (5,)),)],), ((2, ()),), ((2, (("a", (5,)),), 1),), ((2, [("a", (5,))]),),
        ((2, None),), ((2, (("a",),)),), ((2, (["a", (5,)],)),), ((2, (("A", (5,)),)),), ((2, (("", (5,)),)),), ((2, (("a", [5]),)),),
        ((2, (("a", None),)),), ((2, (("a", (True,)),)),), ((2, (("a", ("a b",)),)),), ((2, (("a", (0,) * 7),)),),
        ((2, (("a", (10 ** 11,)),)),), ((2, (("a", (5,)), ("a", (5,)))),), ((2, (("b", (5,)), ("a", (5,)))),), ((2, (("a", (5,), 1),)),),
        ((1, (("a", (5,)),)),), ((5, (("a", (5,)),)),), ((True, (("a", (5,)),)),), (("2", (("a", (5,)),)),),
        ((3, (("a", (5,)),)), (2, (("a", (5,)),))), ((3, (("a", (5,)),)), (3, (("a", (5,)),))), ((2, ((1, (5,)),)),))],
    ("chunk", (2, 4), (1, 0), (MAKE,), ((1, (("a", (5,)),)),)),
)

# What has the form of a chunk's letter, whatever source may have told it.
CHUNKS = (
    ALL, LEFT, RIGHT, ("chunk", (0, 0), (1, 999999), (), ()), ("chunk", (0, 0), (1, 0), (), ()), ("chunk", (7, 9), (999999, 999998), (), ()),
    ("chunk", (0, 999999999999), (5, 5), (MAKE, ("gone", "a"), ("gone", "b")), ()),
    ("chunk", (2, 2), (3, 9), (MAKE,), ((3, (("a", ()), ("b", (None, "x", 1, 2, 3, 4)))), (9, (("abcdef", ("",)),)))),
    ("chunk", (2, 2), (1, 9), (), ((4, tuple((name, ()) for name in "abcdefgh")),)),
)


class Counts(Case):

    def test_the_first_one(self):
        for letter in CHUNKS:
            self.same(counts((), letter), letter[2][0] == 1 and letter[2][1] > 0)

    def test_behind_another_one(self):
        for letter, wanted in (
            (RIGHT, True), (chunk(2, 2, 11, 11), True), (chunk(2, 9, 11, 20), True), (chunk(3, 3, 11, 20), True),
            (chunk(1, 9, 11, 20), False), (chunk(0, 2, 11, 999999), False), (chunk(4, 4, 12, 999999), False), (chunk(4, 4, 10, 999999), False),
            (chunk(4, 4, 1, 10), False), (chunk(4, 4, 1, 999999), False), (chunk(4, 4, 11, 10), False), (LEFT, False), (ALL, False),
        ):
            self.same(counts((LEFT,), letter), wanted)

    def test_behind_several(self):
        chunks = (chunk(5, 9, 1, 3), chunk(7, 8, 4, 4), chunk(6, 6, 5, 7))
        for low, wanted in ((4, False), (5, True), (6, True), (7, True), (20, True)):
            self.same(counts(chunks, chunk(low, 20, 8, 8)), wanted)
        self.same(counts(chunks, chunk(5, 5, 7, 8)), False)
        whole = (*chunks, chunk(5, 5, 8, 999999))
        for letter in (*CHUNKS, chunk(5, 5, 999999, 999999), chunk(5, 5, 999999, 999998)):
            self.same(counts(whole, letter), False)

    def test_steps_and_rows_are_not_looked_at(self):
        self.same(counts((LEFT,), ("chunk", (4, 4), (11, 11), (), ())), True)
        self.same(counts((), ("chunk", (4, 4), (1, 1), (("gone", "a"),), (ROW,))), True)

    def test_what_is_refused(self):
        for letter in (*NO_CHUNKS, *ANYTHING):
            self.refused_with(BadLetter, letter, counts, (), letter)
            self.refused_with(BadLetter, letter, counts, (LEFT,), letter)
            for chunks in ((letter,), (LEFT, letter), (letter, RIGHT)):
                self.refuses_chunks(chunks)
        for chunks in (*[value for value in ANYTHING if value != ()], [], [LEFT], LEFT, (RIGHT,), (LEFT, LEFT), (RIGHT, LEFT),
                       (LEFT, chunk(1, 1, 11, 999999)), (LEFT, chunk(2, 2, 12, 999999)), (chunk(2, 2, 1, 0),), (ALL, RIGHT),
                       (LEFT, chunk(2, 2, 11, 10)), (ALL, chunk(2, 4, 999999, 999998)), (chunk(2, 3, 2, 10), RIGHT)):
            self.refuses_chunks(chunks)

    def refuses_chunks(self, chunks):
        self.refused_with(BadChunks, chunks, counts, chunks, LEFT)
        self.refused_with(BadChunks, chunks, counts, chunks, None)
        self.refused_with(BadChunks, chunks, lacking, chunks)
        self.refused_with(BadChunks, chunks, copied, chunks, None)


class Lacking(Case):

    def test_the_least_key_that_no_chunk_covers(self):
        for chunks, wanted in (
            ((), 1), ((LEFT,), 11), ((LEFT, RIGHT), None), ((ALL,), None), ((chunk(1, 1, 1, 1),), 2), ((chunk(1, 1, 1, 999998),), 999999),
            ((chunk(1, 1, 1, 999998), chunk(1, 1, 999999, 999999)), None), ((chunk(5, 5, 1, 3), chunk(7, 8, 4, 4)), 5),
        ):
            self.same(lacking(chunks), wanted)

    def test_copied_lacks_it(self):
        for chunks in ((), (LEFT,), (chunk(1, 1, 1, 1),), (chunk(1, 1, 1, 999998),)):
            for entries in (None, (), (("deal", ()),) * 2):
                self.refused(Lacks, lacking(chunks), copied, chunks, entries)


class Copied(Case):

    def test_as_many_entries_as_are_due(self):
        deal = ("deal", ())
        for chunks, number in (((ALL,), 2), ((LEFT, RIGHT), 2), ((chunk(2, 9, 1, 10), RIGHT), 7), ((chunk(2, 2, 1, 999999),), 0),
                               ((chunk(3, 3, 1, 1), chunk(4, 9, 2, 2), chunk(3, 5, 3, 999999)), 6)):
            copied(chunks, (deal,) * number)
            for entries in (*[(deal,) * many for many in range(9) if many != number], [deal] * number, None, 5, "a" * number, {}, True):
                self.refused(BadEntries, number, copied, chunks, entries)
        for entry in (*ANYTHING, ("step", ("make", "A", ())), ("deal", (NO_CHANGES[1],)), ["deal", ()], ("mark", ())):
            self.refused(BadEntries, 2, copied, (ALL,), (deal, entry))
            self.refused(BadEntries, 2, copied, (ALL,), (entry, deal))

    def test_a_drop_where_no_row_lies_any_more(self):
        one = chunk(2, 4, 1, 999999, ((2, (("a", (3,)),)),))
        deals = (("deal", (("drop", "a", 1), ("put", "a", 2, (4,)))), ("deal", (("put", "a", 3, (0,)), ("drop", "a", 2))))
        self.same(copied((one,), deals)[3], (("a", ((3, (0,)),)),))

    def test_a_row_that_was_read_behind_its_changes(self):
        one = chunk(2, 4, 1, 999999, ((1, (("a", (9,)),)), (4, (("a", (1,)),))))
        deals = (("deal", (("put", "a", 1, (7,)), ("drop", "a", 4))), ("deal", (("put", "a", 1, (9,)), ("put", "a", 4, (1,)))))
        self.same(copied((one,), deals), (4, (MAKE,), (("a", (("x", "int"),)),), (("a", ((1, (9,)), (4, (1,)))),)))

    def test_changes_up_to_a_chunk_s_lower_moment_are_its_rows_own(self):
        right = chunk(3, 3, 2, 999999, ((2, (("a", (8,)),)),))
        deal = ("deal", (("put", "a", 1, (1,)), ("put", "a", 2, (7,))))
        self.same(copied((chunk(2, 2, 1, 1), right), (deal,))[3], (("a", ((1, (1,)), (2, (8,)))),))

    def test_of_each_key_its_chunk_alone_tells_what_lay_there(self):
        # No source tells this: its chunk would have found the key 2.
        deal = ("deal", (("put", "a", 1, (1,)), ("put", "a", 2, (7,))))
        self.same(copied((chunk(2, 2, 1, 1), chunk(3, 3, 2, 999999)), (deal,))[3], (("a", ((1, (1,)),)),))
        self.same(copied((chunk(2, 3, 1, 1), chunk(2, 2, 2, 999999)), (deal,))[3], (("a", ((1, (1,)), (2, (7,)))),))

    def test_steps_lead_what_was_read_ahead_of_them_alone(self):
        turn, cut = ("turn", "a", "x", "text", None, None), ("cut", "a", "x", None)
        rows = ((1, (("a", (5,)),)),)
        left, right = chunk(2, 2, 1, 1, rows), ("chunk", (3, 3), (2, 999999), (MAKE, turn), ((2, (("a", ("05",)),)),))
        self.same(copied((left, right), (("step", turn),)),
                  (3, (MAKE, turn), (("a", (("x", "text"),)),), (("a", ((1, ("5",)), (2, ("05",)))),)))
        gone = ("chunk", (4, 4), (2, 999999), (MAKE, turn, cut), ((2, (("a", ()),)),))
        self.same(copied((left, gone), (("step", turn), ("step", cut)))[1:],
                  ((MAKE, turn, cut), (("a", ()),), (("a", ((1, ()), (2, ()))),)))

    def test_a_source_without_tables(self):
        self.same(copied((("chunk", (0, 0), (1, 999999), (), ()),), ()), (0, (), (), ()))
        self.same(copied((("chunk", (0, 1), (1, 999999), (), ()),), (("deal", ()),)), (1, (), (), ()))


class Read:
    """A source, its story, and a copy that is read of it while the source goes on."""

    def __init__(self, chance, steps):
        self.chance, self.story, self.steps = chance, Story(), steps
        self.source, self.chunks, self.letters = founded(Disk(), 1), (), []
        for _ in range(chance.randint(0, 12)):
            self.go_on(0.3)

    def go_on(self, steps):
        if not self.story.schema or self.chance.random() < steps:
            entry = ("step", any_next_step(self.chance, self.story.schema))
        else:
            entry = any_deal(self.chance, self.story, KEYS)
        lead(self.source, (entry,))
        self.story.tell(entry)

    def read_chunk(self):
        """Reads a chunk of what lacks, row by row, with writing between the rows."""
        chance, low = self.chance, lacking(self.chunks)
        high = chance.choice((999999, 999999, min(low + 2, 999999), chance.randint(low, 999999)))
        number = self.source.chunk(low, high)
        for _ in range(chance.choice((1, 2, 3, 20))):
            for _ in range(chance.choice((0, 0, 1, 2))):
                self.go_on(self.steps)
            if not self.source.chunk_row(number) and chance.random() < 0.7:
                break
        if chance.random() < 0.3:
            self.go_on(self.steps)
        letter = self.source.chunk_end(number)
        self.letters.append(letter)
        if counts(self.chunks, letter):
            self.chunks = (*self.chunks, letter)


class Amid(Case):

    def is_told(self, read):
        moment = max(letter[1][1] for letter in read.chunks)
        entries, story = read.story.entries[read.chunks[0][1][0]:moment], read.story
        steps = tuple(told for word, told in story.entries[:moment] if word == "step")
        told = copied(read.chunks, entries)
        self.same(told, (moment, steps, story.schemas[moment], story.state(moment)))
        self.same(copied(entries=entries, chunks=read.chunks), told)
        if entries:
            self.refused(BadEntries, len(entries), copied, read.chunks, entries[1:])

    def test_what_the_source_s_history_tells(self):
        woven = 0
        for chance in chances(400):
            read = Read(chance, chance.choice((0, 0, 0.1, 0.4)))
            for _ in range(60):
                if lacking(read.chunks) is None:
                    break
                self.refused(Lacks, lacking(read.chunks), copied, read.chunks, ())
                read.read_chunk()
                if chance.random() < 0.3:
                    read.go_on(0.2)
            if lacking(read.chunks) is None:
                woven += sum(letter[1][0] < letter[1][1] for letter in read.chunks)
                self.is_told(read)
        self.assertGreater(woven, 300)

    def test_keys_are_changed_ahead_of_reading_and_behind_it(self):
        ahead = behind = 0
        for chance in chances(200):
            read = Read(chance, 0)
            while lacking(read.chunks) is not None:
                read.read_chunk()
            self.is_told(read)
            for letter in read.chunks:
                for key in touched(read.story.entries, *letter[1]):
                    found = dict(letter[4]).get(key, ())
                    for table, _ in read.story.schemas[letter[1][1]]:
                        there = dict(dict(read.story.state(letter[1][1]))[table]).get(key)
                        if letter[2][0] <= key <= letter[2][1]:
                            ahead += dict(found).get(table) != there
                            behind += dict(found).get(table) == there
        self.assertGreater(min(ahead, behind), 50)

    def test_what_a_copy_tells_of_each_chunk_that_counts_in_whatever_run(self):
        for chance in chances(200):
            read = Read(chance, 0.1)
            for _ in range(30):
                if lacking(read.chunks) is None:
                    break
                read.read_chunk()
            for letter in read.letters:
                covers = letter[2][0] <= letter[2][1]
                self.assertTrue(letter in read.chunks or not covers)

    def test_by_name_twice_and_unaltered(self):
        deals = (("deal", ()), ("deal", (("put", "a", 1, (9,)),)))
        chunks, ahead = (ALL,), copy.deepcopy((ALL, deals))
        for _ in range(2):
            self.same(counts(letter=ALL, chunks=()), True)
            self.same(lacking(chunks=chunks), None)
            self.same(copied(entries=deals, chunks=chunks), copied(chunks, deals))
        self.same((ALL, deals), ahead)
        for value in ANYTHING:
            told = repr(value)
            for function in (lambda: counts(value, ALL), lambda: counts((), value), lambda: lacking(value),
                             lambda: copied(value, ()), lambda: copied((ALL,), value)):
                try:
                    function()
                except (BadChunks, BadLetter, BadEntries, Lacks):
                    pass
            self.assertEqual(repr(value), told)
