"""Section 15: rigs that are led by many deeds of all kinds, against a story of the test's own."""

import copy

from deeds import OFTEN, any_deed
from models import Story, shown_plainly
from samples import ANYTHING, Case, chances
from toldmoment.disks import Disk
from toldmoment.errors import (
    Awake, BadChanges, BadDeed, BadFates, BadKey, BadKeys, BadNumber, BadStep, BadViews, MomentError, NoChunk, NoEdition, NoLetter,
    NoMoment, NoOne, NoPartition, NoRoom, NoRow, NoTable, There, Unready,
)
from toldmoment.rig import Rig
from toldmoment.source import Source

MAKE = ("make", "s", (("who", "text"), ("pay", "int")))
COUNT, ROWS = ("count", "s", "pay"), ("rows", "s", ("who",), None)
PARTS = {
    "deal": 2, "step": 2, "compact": 2, "chunk": 3, "row": 2, "end": 2, "send": 3, "answer": 2, "hear": 3, "lose": 2, "join": 3,
    "move": 4, "weaken": 3, "up": 3,
}


def put(key, *values):
    return ("put", "s", key, values or ("ann", key))


def told_of(rig):
    """All that can be asked of a rig."""
    many = many_of(rig)
    return rig.entries, rig.bag, rig.down, [rig.shown(who) for who in range(1, many + 1)], rig.check()


def many_of(rig):
    """How many consumers a rig has."""
    many = 0
    while True:
        try:
            rig.shown(many + 1)
        except NoOne:
            return many
        many += 1


def done(rig, *deeds):
    return [rig.do(deed) for deed in deeds]


class Led(Case):
    """A rig, its source's story, and what each consumer showed, noted by the test itself."""

    def start(self, partitions):
        self.rig, self.partitions, self.story = Rig(partitions), partitions, Story()
        # Of each consumer the editions, with their views, that it may have: behind a move that fell two of them.
        self.moved, self.greatest, self.under_way, self.chunks = [()], [None], None, 0

    def do(self, deed):
        """Does a deed, and looks at all that can be asked behind it; its answer, or the error."""
        rig, ahead = self.rig, (self.rig.bag, self.rig.down, self.rig.entries)
        try:
            answer = rig.do(deed)
        except MomentError as error:
            self.same((rig.bag, rig.down, rig.entries), ahead)
            self.shows()
            return error
        self.note(deed, answer, ahead)
        self.same((rig.entries, rig.check()), (self.story.entries, ("right",)))
        self.shows()
        return answer

    def note(self, deed, answer, ahead):
        word, rig = deed[0], self.rig
        if answer == "fallen":
            who = 0 if word in ("deal", "step", "compact") else deed[1]
            self.same((rig.down, rig.bag), (tuple(sorted((*ahead[1], who))), ahead[0]))
            if word in ("deal", "step"):
                self.under_way = deed
            elif word == "move":
                self.moved[who] = (*self.moved[who], deed[2:])
        elif answer == "down":
            self.same((rig.bag, rig.down, rig.entries), ahead)
        elif word in ("deal", "step"):
            self.same(answer, self.story.moment + 1)
            self.story.tell(deed)
        elif word == "up":
            self.same((answer, rig.down), ("up", tuple(who for who in ahead[1] if who != deed[1])))
            if deed[1] == 0:
                self.found()
        elif word == "join":
            self.same(answer, len(self.moved))
            self.moved.append((deed[1:],))
            self.greatest.append(None)
        elif word == "move":
            self.moved[deed[1]] = (deed[2:],)
        elif word == "chunk":
            self.chunks = answer

    def found(self):
        """The source came up with the entry under way, or without it."""
        if self.under_way and len(self.rig.entries) > self.story.moment:
            self.story.tell(self.under_way)
        self.under_way = None

    def shows(self):
        for who in range(1, len(self.moved)):
            shown = self.rig.shown(who)
            self.same(self.rig.due(who), shown)
            if who in self.rig.down:
                self.assertIsNone(shown)
            elif shown is None:
                self.assertIsNone(self.greatest[who])
            else:
                due = [(shown_plainly(*self.story.seen(shown[0], edition), views), (edition, views)) for edition, views in self.moved[who]]
                self.assertIn(repr(shown[1]), [repr(tables) for tables, _ in due])
                self.moved[who] = tuple(moved for tables, moved in due if tables == shown[1])
                self.assertGreaterEqual(shown[0], self.greatest[who] or 0)
                self.greatest[who] = shown[0]

    def settles(self):
        bag = self.rig.bag
        rounds = self.rig.settle()
        self.found()
        self.same((self.rig.entries, self.rig.check(), self.rig.down), (self.story.entries, ("right",), ()))
        self.same(self.rig.bag[:len(bag)], bag)
        self.shows()
        for who in range(1, len(self.moved)):
            shown, editions = self.rig.shown(who), [edition for edition, _ in self.moved[who]]
            self.assertEqual(shown and shown[0], self.story.moment if min(editions) <= self.story.editions[-1] else None)
        bag = len(self.rig.bag)
        self.same((self.rig.settle(), self.rig.check()), (1, ("right",)))
        self.assertEqual(len(self.rig.bag) > bag, len(self.moved) > 1 and self.story.moment > 0)
        return rounds


class Many(Led):

    def test_deeds_of_all_kinds(self):
        answered = {}
        for chance in chances(250):
            self.start(chance.randint(1, 4))
            words = list(OFTEN)
            for _ in range(chance.randint(10, 70)):
                many = len(self.moved) - 1
                word = chance.choices(words, [OFTEN[word] for word in words])[0]
                if (word == "join" and many == 3) or (word == "deal" and not self.story.schema):
                    word = "step"
                deed = any_deed(chance, self, self.story, many)[word]()
                answer = self.do(deed)
                if not isinstance(answer, str):
                    answer = type(answer).__name__ if isinstance(answer, MomentError) else "done"
                answered[word, answer] = answered.get((word, answer), 0) + 1
                if chance.random() < 0.02:
                    self.settles_unless_full()
            self.settles_unless_full()
        for word in OFTEN:
            self.assertGreater(answered.get((word, "up" if word in ("weaken", "up") else "done"), 0), 10, word)
        for word in ("deal", "step", "compact", "hear", "move"):
            self.assertGreater(answered.get((word, "fallen"), 0), 0, word)

    def settles_unless_full(self):
        try:
            self.settles()
        except NoRoom:
            self.found()
            self.same((self.rig.entries, self.rig.check(), self.rig.down), (self.story.entries, ("right",), ()))
            self.shows()

    def test_machines_that_fall_at_each_write(self):
        for chance in chances(3):
            for left in range(0, 30):
                self.start(1)
                views = (COUNT, ROWS)
                for deed in (("step", MAKE), ("deal", (put(1), put(2))), ("join", 1, views), ("answer", 1), ("hear", 1, 1),
                             ("weaken", 0, left), ("deal", (put(1, "bob", 1),)), ("step", ("name", "s", "pay", "wage")), ("compact", 2)):
                    self.do(deed)
                waiting = chance.randint(0, 4)
                fates = tuple(chance.choice(("all", "none", chance.randint(0, 120))) for _ in range(waiting))
                if 0 in self.rig.down:
                    self.same(self.do(("answer", 1)), "down")
                    self.same(self.do(("up", 0, fates)), "up")
                self.same(self.do(("weaken", 1, left)), "up")
                numbers = self.do(("answer", 1))
                for number in numbers:
                    self.do(("hear", 1, number))
                self.do(("move", 1, 0, views))
                if 1 in self.rig.down:
                    self.same(self.do(("hear", 1, 1)), "down")
                    self.same(self.do(("answer", 1)), "down")
                    self.same(self.do(("up", 1, fates)), "up")
                self.settles()


class Deeds(Led):

    def test_a_new_rig(self):
        for partitions in (1, 2, 3, 4):
            rig = Rig(partitions)
            self.same(told_of(rig), ((), (), (), [], ("right",)))
            self.same((rig.settle(), rig.bag), (1, ()))
            self.same([rig.do(("send", partition, 0)) for partition in range(partitions)], [()] * partitions)
            self.refused(NoPartition, partitions, rig.do, ("send", partitions, 0))
        for value in (0, 5, -1, *[value for value in ANYTHING if value != 1 or value is True]):
            self.refused_with(BadNumber, value, Rig, value)
        self.same(Rig(partitions=2).do(deed=("step", MAKE)), 1)

    def test_the_source_s_deeds(self):
        rig = Rig(2)
        self.same(done(rig, ("step", MAKE), ("deal", (put(1), put(2), put(3), put(4))), ("compact", 1), ("deal", ())), [1, 2, None, 3])
        self.same(done(rig, ("chunk", 1, 3), ("row", 1), ("row", 1), ("chunk", 4, 4), ("row", 2), ("row", 2), ("row", 1), ("row", 1)),
                  [1, True, True, 2, True, False, True, False])
        self.same(done(rig, ("end", 2), ("end", 1), ("send", 1, 1), ("send", 0, 3), ("send", 0, 0)), [1, 2, (3, 4), (5,), (6,)])
        self.same([(number, letter[0]) for number, letter in rig.bag],
                  [(1, "chunk"), (2, "chunk"), (3, "deal"), (4, "mark"), (5, "mark"), (6, "old")])
        self.same([letter[2] for _, letter in rig.bag[:2]], [(4, 4), (1, 3)])
        self.same(rig.bag[2:], ((3, ("deal", 1, 2, 1, (put(2), put(4)))), (4, ("mark", 1, 3, 2)), (5, ("mark", 0, 3, 2)), (6, ("old", 0, 1))))
        self.same(rig.entries, (("step", MAKE), ("deal", (put(1), put(2), put(3), put(4))), ("deal", ())))
        self.same((rig.down, rig.check()), ((), ("right",)))

    def test_letters_in_the_bag(self):
        rig = Rig(1)
        done(rig, ("step", MAKE), ("send", 0, 0), ("send", 0, 1), ("join", 1, (COUNT,)), ("answer", 1))
        self.same([number for number, _ in rig.bag], [1, 2, 3, 4])
        self.same(done(rig, ("lose", 2), ("lose", 4), ("send", 0, 1)), [None, None, (5,)])
        self.same([number for number, _ in rig.bag], [1, 3, 5])
        self.same(done(rig, ("hear", 1, 3), ("hear", 1, 3), ("hear", 1, 1)), [None, None, None])
        self.same([number for number, _ in rig.bag], [1, 3, 5])
        for number in (2, 4, 0, 6, -1):
            self.refused(NoLetter, number, rig.do, ("lose", number))
            self.refused(NoLetter, number, rig.do, ("hear", 1, number))

    def test_answers(self):
        rig = Rig(2)
        done(rig, ("step", MAKE), ("deal", tuple(put(key) for key in (1, 2, 3))), ("join", 1, (COUNT, ROWS)), ("join", 0, (COUNT,)))
        self.same(rig.do(("answer", 1)), (1,))
        self.same(rig.bag[0][1][1:3], ((2, 2), (1, 3)))
        done(rig, ("hear", 1, 1), ("deal", (put(4), put(5), put(6), put(7))))
        self.same(rig.do(("answer", 1)), (2, 3, 4, 5, 6))
        self.same([letter[0] for _, letter in rig.bag[1:]], ["chunk", "deal", "mark", "deal", "mark"])
        self.same(rig.bag[1][1][1:3], ((3, 3), (4, 6)))
        done(rig, ("hear", 1, 2), ("answer", 1))
        self.same(rig.bag[6][1][1:3], ((3, 3), (7, 999999)))
        self.same((rig.shown(1), rig.due(1)), (None, None))
        done(rig, *[("hear", 1, number) for number in (7, 3, 6, 4, 5)])
        self.same(rig.shown(1), (3, (tuple((key, 1) for key in range(1, 8)), tuple((key, ("ann",)) for key in range(1, 8)))))
        self.same((rig.shown(2), rig.settle() > 1, rig.shown(2)), (None, True, (3, (("unfit",),))))

    def test_machines_that_join_and_move(self):
        rig = Rig(1)
        self.same(done(rig, ("step", MAKE), ("join", 0, (COUNT,)), ("join", 9, (COUNT,) * 4)), [1, 1, 2])
        rig.settle()
        self.same((rig.shown(1), rig.shown(2)), ((1, (("unfit",),)), None))
        self.same((rig.do(("move", 1, 1, (ROWS, COUNT))), rig.shown(1)), (None, (1, ((), ()))))
        self.refused(Unready, None, rig.do, ("move", 2, 0, (ROWS,)))
        self.refused(NoEdition, 2, rig.do, ("move", 1, 2, None))
        self.refused(BadViews, (), rig.do, ("move", 1, 0, ()))
        self.refused(NoEdition, -1, rig.do, ("join", -1, None))
        self.refused(BadViews, None, rig.do, ("join", 0, None))
        self.same(many_of(rig), 2)

    def test_rounds(self):
        for keys, rounds in ((0, 2), (2, 2), (3, 3), (4, 3), (6, 4), (7, 4)):
            rig = Rig(1)
            done(rig, ("step", MAKE), ("deal", tuple(put(key) for key in range(1, keys + 1))), ("join", 1, (COUNT,)))
            self.same((rig.settle(), rig.settle()), (rounds, 1))
            self.same(rig.shown(1)[0], 2)
        rig = Rig(1)
        done(rig, ("join", 0, (COUNT,)), ("join", 5, (COUNT,)))
        self.same((rig.settle(), rig.bag[0][1][2], rig.shown(1), rig.shown(2)), (2, (1, 999999), (0, (("unfit",),)), None))

    def test_a_chunk_that_answers_goes_up_to_the_third_key(self):
        rig = Rig(1)
        done(rig, ("step", MAKE), ("deal", (put(2), put(5), put(9))), ("join", 1, (COUNT,)), ("answer", 1), ("hear", 1, 1), ("answer", 1))
        self.same([letter[2] for _, letter in rig.bag[:2]], [(1, 9), (10, 999999)])

    def test_what_raises_changes_nothing(self):
        rig = Rig(2)
        done(rig, ("step", MAKE), ("deal", (put(1),)), ("join", 1, (COUNT,)), ("chunk", 1, 5), ("answer", 1), ("hear", 1, 1))
        ahead = told_of(rig)
        for deed, error, value in (
            (("deal", None), BadChanges, None), (("deal", (("drop", "s", 9),)), NoRow, ("s", 9)), (("deal", (("drop", "t", 9),)), NoTable, "t"),
            (("step", ()), BadStep, ()), (("step", MAKE), There, "s"), (("compact", 3), NoMoment, 3), (("compact", None), NoMoment, None),
            (("chunk", 0, 0), BadKey, 0), (("chunk", 1, None), BadKey, None), (("chunk", 5, 4), BadKeys, (5, 4)), (("row", 2), NoChunk, 2),
            (("row", True), NoChunk, True), (("end", 0), NoChunk, 0), (("send", 2, 9), NoPartition, 2), (("send", 1, 3), NoMoment, 3),
            (("send", [], []), NoPartition, []), (("up", 1, None), Awake, 1), (("up", 0, ()), Awake, 0),
        ):
            self.refused(error, value, rig.do, deed)
            self.same(told_of(rig), ahead)
        self.same(done(rig, ("row", 1), ("row", 1), ("end", 1)), [True, False, 2])


class Refused(Led):

    def rig_with_one_down(self, down):
        rig = Rig(1)
        done(rig, ("step", MAKE), ("deal", (put(1),)), ("join", 1, (COUNT,)), ("answer", 1), ("hear", 1, 1), ("chunk", 1, 1))
        if down == 0:
            done(rig, ("weaken", 0, 0), ("deal", (put(2),)))
        if down == 1:
            done(rig, ("deal", (put(2),)), ("send", 0, 2), ("weaken", 1, 0), ("hear", 1, 2))
        self.same(rig.down, () if down is None else (down,))
        return rig

    def test_what_is_no_deed(self):
        for down in (None, 0, 1):
            rig = self.rig_with_one_down(down)
            ahead = told_of(rig)
            for deed in (
                *ANYTHING, ["deal", ()], "deal", ("Deal", ()), ("deal ", ()), ("settle",), ("check",), ("bag",), ("show", 1), (None, 1),
                (True, 1), (["deal"], ()), (("deal",), ()), ({}, 1), ("", 1), ("found", 1),
                *[(word, *[1] * more) for word, many in PARTS.items() for more in range(7) if more != many - 1],
            ):
                if deed != ("deal", ()):
                    self.refused_with(BadDeed, deed, rig.do, deed)
            self.same(told_of(rig), ahead)

    def test_who_is_none(self):
        for down in (None, 0, 1):
            rig = self.rig_with_one_down(down)
            ahead = told_of(rig)
            for who in (2, -1, *[value for value in ANYTHING if type(value) is not int or not 0 <= value <= 1]):
                for deed in (("answer", who), ("hear", who, None), ("move", who, None, None), ("weaken", who, None), ("up", who, None)):
                    self.refused_with(NoOne, who, rig.do, deed)
                self.refused_with(NoOne, who, rig.shown, who)
                self.refused_with(NoOne, who, rig.due, who)
            for deed in (("answer", 0), ("hear", 0, 1), ("move", 0, 0, (COUNT,))):
                self.refused(NoOne, 0, rig.do, deed)
            self.refused(NoOne, 0, rig.shown, 0)
            self.refused(NoOne, 0, rig.due, 0)
            self.same(told_of(rig), ahead)

    def test_which_letter_is_none(self):
        for down in (None, 0, 1):
            rig = self.rig_with_one_down(down)
            ahead = told_of(rig)
            numbers = [number for number, _ in rig.bag]
            for number in (0, 99, *[value for value in ANYTHING if type(value) is not int or value not in numbers]):
                self.refused_with(NoLetter, number, rig.do, ("hear", 1, number))
                self.refused_with(NoLetter, number, rig.do, ("lose", number))
            self.same(told_of(rig), ahead)

    def test_how_many_are_left(self):
        for down in (None, 0, 1):
            rig = self.rig_with_one_down(down)
            ahead = told_of(rig)
            for left in (-1, 10 ** 6 + 1, *[value for value in ANYTHING if type(value) is not int or not 0 <= value <= 10 ** 6]):
                for who in (0, 1):
                    self.refused_with(BadNumber, left, rig.do, ("weaken", who, left))
            self.same(told_of(rig), ahead)
            for who in (0, 1):
                for left in (0, 10 ** 6):
                    self.same(rig.do(("weaken", who, left)), "down" if who == down else "up")

    def test_what_needs_a_machine_that_is_down(self):
        rig = self.rig_with_one_down(0)
        ahead = told_of(rig)
        for deed in (("deal", ()), ("deal", None), ("step", MAKE), ("step", ()), ("compact", 1), ("compact", None), ("chunk", 1, 1),
                     ("chunk", None, None), ("row", 1), ("row", None), ("end", 1), ("end", 9), ("send", 0, 0), ("send", None, None),
                     ("answer", 1), ("weaken", 0, 5)):
            self.same(rig.do(deed), "down")
            self.same(told_of(rig), ahead)
        self.same(done(rig, ("hear", 1, 1), ("move", 1, 0, (COUNT,)), ("join", 0, (COUNT,)), ("lose", 1), ("weaken", 1, 99)),
                  [None, None, 2, None, "up"])
        rig = self.rig_with_one_down(1)
        ahead = told_of(rig)
        for deed in (("hear", 1, 1), ("move", 1, 0, (COUNT,)), ("move", 1, None, None), ("answer", 1), ("weaken", 1, 5)):
            self.same(rig.do(deed), "down")
            self.same(told_of(rig), ahead)
        # The chunk 1 was that of the answer.
        self.same(done(rig, ("row", 2), ("end", 2), ("send", 0, 0), ("compact", 1), ("deal", ())), [True, 4, (5, 6, 7, 8), None, 4])
        self.same((rig.shown(1), rig.due(1), rig.check()), (None, None, ("right",)))

    def test_what_are_no_fates(self):
        for down in (0, 1):
            rig = self.rig_with_one_down(down)
            ahead = told_of(rig)
            for fates in (*[value for value in ANYTHING if value not in ((), (1,))], (True,), ("all", "none", "some"), ("all", -1), (None,),
                          ("ALL",), (1.0,), (("all",),), ["all"], ("1",), "all", ("all", False)):
                self.refused_with(BadFates, fates, rig.do, ("up", down, fates))
                self.refused(Awake, 1 - down, rig.do, ("up", 1 - down, fates))
            self.same(told_of(rig), ahead)
            self.same(rig.do(("up", down, ("all", "none", 0, 10 ** 9, 5, "all"))), "up")
            self.same((rig.down, rig.check()), ((), ("right",)))

    def test_by_name_twice_and_unaltered(self):
        rig = self.rig_with_one_down(None)
        for _ in range(2):
            self.same(rig.shown(who=1), (2, (((1, 1),),)))
            self.same(rig.due(who=1), (2, (((1, 1),),)))
            self.same(rig.check(), ("right",))
        for value in ANYTHING:
            told, ahead = repr(value), told_of(rig)
            for deed in (value, ("deal", value), ("step", value), ("compact", value), ("chunk", value, value), ("row", value),
                         ("send", 0, value), ("answer", value), ("join", 0, value), ("move", 1, 0, value), ("up", 0, value)):
                try:
                    if value not in ((), 0, 1, True, False) and deed != ("deal", ()):
                        rig.do(deed)
                except MomentError:
                    pass
            self.assertEqual(repr(value), told)
            self.same(told_of(rig), ahead)


class Coming(Led):
    """How machines come up again."""

    def test_the_first_fates_are_those_of_the_first_writes(self):
        found = set()
        for left in range(1, 8):
            for fates in ((), ("none",) * 20, ("all",) * 20, (999,) * 20, (0,) * 20, (3,), ("all",), ("none", "all", "all"), (5, "all", 121)):
                self.start(1)
                for deed in (("step", MAKE), ("deal", (put(1),)), ("weaken", 0, left), ("deal", (put(2),))):
                    self.do(deed)
                if self.rig.down:
                    disk = self.rig._machines[0].disk
                    given = (*fates, *["none"] * len(disk.waiting))[:len(disk.waiting)]
                    given = tuple("all" if type(fate) is int and fate > len(text) else fate for fate, (_, text) in zip(given, disk.waiting))
                    wanted = Disk(disk.cut(given).blocks)
                    self.do(("up", 0, fates))
                    self.same(self.rig._machines[0].runs.moment, self.story.moment)
                    self.same(self.story.moment, Source(wanted).moment)
                    found.add(self.story.moment)
                self.do(("deal", (put(3),)))
        self.assertEqual(found, {2, 3})

    def test_settle_cuts_those_that_are_down_with_none(self):
        for left in range(1, 8):
            self.start(1)
            for deed in (("step", MAKE), ("deal", (put(1),)), ("weaken", 0, left), ("deal", (put(2),))):
                self.do(deed)
            disk = self.rig._machines[0].disk
            wanted = Source(disk.cut(("none",) * len(disk.waiting))).moment if self.rig.down else 3
            self.same(self.rig.settle(), 1)
            self.found()
            self.same((self.story.moment, len(self.rig.entries), self.rig.check(), self.rig.down), (wanted, wanted, ("right",), ()))
            self.same(self.do(("deal", ())), wanted + 1)

    def test_settle_forgets_open_chunks_and_what_was_left(self):
        rig = Rig(1)
        done(rig, ("step", MAKE), ("chunk", 1, 1), ("join", 1, (COUNT,)), ("weaken", 0, 1), ("weaken", 1, 1))
        rig.settle()
        self.refused(NoChunk, 1, rig.do, ("row", 1))
        # The chunk 1 of the source that was opened anew is that of the answer.
        self.refused(NoChunk, 1, rig.do, ("end", 1))
        self.same(done(rig, ("deal", (put(1),)), ("chunk", 1, 1)), [2, 2])
        self.same((rig.settle(), rig.shown(1)[0]), (2, 2))

    def test_weaken_opens_anew(self):
        rig = Rig(1)
        done(rig, ("step", MAKE), ("deal", tuple(put(key) for key in range(1, 6))), ("join", 1, (COUNT,)), ("chunk", 1, 1), ("answer", 1),
             ("hear", 1, 1))
        self.same(done(rig, ("weaken", 0, 100), ("weaken", 1, 100)), ["up", "up"])
        self.refused(NoChunk, 1, rig.do, ("row", 1))
        self.same(rig.do(("answer", 1)), (2,))
        self.same(rig.bag[1][1][2], (1, 3))
        self.same((rig.settle(), rig.do(("deal", ())), rig.shown(1)[0]), (3, 3, 2))

    def test_falls_in_opening(self):
        # No book needs mending between two deeds: what needs it is laid there by hand.
        for who in (0, 1):
            rig = Rig(1)
            done(rig, ("step", MAKE), ("join", 1, (COUNT,)), ("answer", 1), ("hear", 1, 1))
            machine = rig._machines[who]
            machine.disk = Disk((*machine.disk.blocks, "", "torn"))
            self.same((rig.do(("weaken", who, 0)), rig.down, rig.check(), rig.shown(1) is None), ("fallen", (who,), ("right",), who == 1))
            self.same(done(rig, ("answer", 1), ("weaken", who, 9), ("up", who, ())), ["down", "down", "up"])
            self.same((rig.down, rig.check(), rig.shown(1), len(rig.entries)), ((), ("right",), (1, ((),)), 1))
            machine.disk = Disk((*machine.disk.blocks, "", "torn"))
            self.same((rig.do(("weaken", who, 1)), rig.down), ("fallen", (who,)))
            self.same((rig.settle(), rig.down, rig.check(), rig.shown(1)), (1, (), ("right",), (1, ((),))))
            machine.disk = Disk((*machine.disk.blocks, "", "torn"))
            self.same((rig.do(("weaken", who, 2)), rig.down, rig.check()), ("up", (), ("right",)))

    def test_how_many_writes_a_weak_machine_does(self):
        for who in (0, 1):
            answers = []
            for left in range(0, 40):
                rig = Rig(1)
                done(rig, ("step", MAKE), ("join", 1, (COUNT,)), ("answer", 1), ("hear", 1, 1), ("deal", (put(1),)), ("send", 0, 1))
                rig.do(("weaken", who, left))
                answers.append(rig.do(("deal", (put(2),)) if who == 0 else ("hear", 1, 2)))
                self.same(rig.check(), ("right",))
            fallen = answers.count("fallen")
            self.assertGreater(fallen, 3)
            self.same(answers, ["fallen"] * fallen + [3 if who == 0 else None] * (40 - fallen))


class Checked(Led):
    """What check tells of machines that are not right: none is, so they are put there by hand."""

    class Shows:
        def __init__(self, moment, tables, edition=1, views=(COUNT,)):
            self.moment, self.told, self.edition, self.views = moment, tables, edition, views

        def tables(self):
            return self.told

        def hear(self, letter):
            if letter[0] == "deal":
                raise NoRoom(None)

    class Tells:
        def __init__(self, source):
            self.moment, self.steps, self.state = source.moment, source.steps, source.state

    def rig(self):
        rig = Rig(1)
        done(rig, ("step", MAKE), ("deal", (put(1),)), ("join", 1, (COUNT,)), ("join", 1, (COUNT,)))
        rig.settle()
        self.same(rig.check(), ("right",))
        return rig

    def test_a_consumer(self):
        for shows, wanted in (
            (self.Shows(2, (((1, 1),),)), True), (self.Shows(2, (((1, 2),),)), False), (self.Shows(2, ((),)), False), (self.Shows(2, ()), False),
            (self.Shows(1, ((),)), False), (self.Shows(1, (((1, 1),),)), False), (self.Shows(None, ()), False),
            (self.Shows(2, (("unfit",),)), False), (self.Shows(2, (("unfit",),), 0), True), (self.Shows(2, (((1, 1),),), 0), False),
            (self.Shows(2, (("unfit",), ((1, 1),)), 1, (("count", "s", "x"), COUNT)), True),
        ):
            for who in (1, 2):
                rig = self.rig()
                rig._machines[who].runs = shows
                self.same(rig.check(), ("right",) if wanted else ("wrong", who))
                rig._machines[who].runs = None
                self.same(rig.check(), ("right",))

    def test_a_source_and_the_least_one(self):
        for name, value in (("moment", 1), ("moment", 3), ("steps", ()), ("state", (("s", ()),)), ("state", ())):
            rig = self.rig()
            rig._machines[0].runs = self.Tells(rig._machines[0].runs)
            self.same(rig.check(), ("right",))
            setattr(rig._machines[0].runs, name, value)
            self.same(rig.check(), ("wrong", 0))
            rig._machines[2].runs = self.Shows(2, ())
            self.same(rig.check(), ("wrong", 0))
            rig._machines[0].runs = None
            self.same(rig.check(), ("wrong", 2))
            rig._machines[1].runs = self.Shows(2, ())
            self.same(rig.check(), ("wrong", 1))

    def test_one_that_goes_back(self):
        early, late = self.Shows(1, ((),)), self.Shows(2, (((1, 1),),))
        rig = self.rig()
        rig._machines[1].runs = early
        self.same((rig.shown(1), rig.due(1), rig.check()), ((1, ((),)), (1, ((),)), ("wrong", 1)))
        rig = Rig(1)
        done(rig, ("step", MAKE), ("join", 1, (COUNT,)), ("deal", (put(1),)), ("send", 0, 0))
        rig._machines[1].runs = early
        self.same((rig.check(), rig.do(("hear", 1, 1)), rig.check()), (("right",), None, ("right",)))
        rig._machines[1].runs = late
        self.same((rig.check(), rig.do(("hear", 1, 1)), rig.check()), (("right",), None, ("right",)))
        rig._machines[1].runs = early
        for _ in range(2):
            self.same((rig.check(), rig.do(("hear", 1, 1)), rig.check()), (("wrong", 1), None, ("wrong", 1)))
        rig._machines[1].runs = self.Shows(None, ())
        self.same((rig.check(), rig.do(("hear", 1, 1)), rig.check()), (("wrong", 1), None, ("wrong", 1)))

    def test_one_that_goes_back_from_where_no_room_left_it(self):
        early, late = self.Shows(1, ((),)), self.Shows(2, (((1, 1),),))
        rig = Rig(1)
        done(rig, ("step", MAKE), ("join", 1, (COUNT,)), ("deal", (put(1),)), ("send", 0, 1))
        rig._machines[1].runs = late
        self.refused(NoRoom, None, rig.do, ("hear", 1, 1))
        rig._machines[1].runs = early
        self.same((rig.shown(1), rig.due(1), rig.check()), ((1, ((),)), (1, ((),)), ("wrong", 1)))

    def test_no_room_passes_on_out_of_settle(self):
        rig = Rig(1)
        rig.do(("step", ("make", "s", ())))
        rig.do(("join", 1, (("rows", "s", (), None),)))
        rig.settle()
        for number in range(60):
            rig.do(("deal", tuple(("put", "s", 1 + number * 12 + at, ()) for at in range(12))))
        bag = rig.bag
        for _ in range(2):
            self.refused(NoRoom, None, rig.settle)
            self.same((rig.check(), rig.down, rig.bag[:len(bag)]), (("right",), (), bag))
            self.assertGreater(rig.shown(1)[0], 100 // 12)
        moment = rig.shown(1)[0]
        numbers = rig.do(("answer", 1))
        self.refused(NoRoom, None, rig.do, ("hear", 1, numbers[0]))
        self.same((rig.check(), rig.shown(1)[0]), (("right",), moment))

    def test_one_that_goes_back_from_where_it_came_up(self):
        came = 0
        for left in range(20):
            rig = Rig(1)
            done(rig, ("step", MAKE), ("join", 1, (COUNT,)), ("answer", 1), ("hear", 1, 1), ("deal", (put(1),)), ("send", 0, 1),
                 ("weaken", 1, left))
            if rig.do(("hear", 1, 2)) == "fallen":
                rig.do(("up", 1, ("all",) * 20))
                if rig.shown(1)[0] == 2:
                    came += 1
                    rig._machines[1].runs = self.Shows(1, ((),))
                    self.same((rig.due(1), rig.check()), ((1, ((),)), ("wrong", 1)))
        self.assertGreater(came, 0)

    def test_one_that_showed_nothing_yet(self):
        rig = Rig(1)
        done(rig, ("step", MAKE), ("join", 1, (COUNT,)))
        self.same(rig.check(), ("right",))
        rig._machines[1].runs = self.Shows(0, (("unfit",),), 0)
        self.same(rig.check(), ("right",))

    def test_more_than_200_entries(self):
        rig = Rig(1)
        done(rig, ("step", MAKE), ("join", 1, (COUNT,)))
        for number in range(1, 230):
            rig.do(("deal", (put(1, "x", number),)))
            if number == 100 or number == 200:
                rig.do(("compact", number))
        rig.settle()
        self.same((len(rig.entries), rig.shown(1)), (230, (230, (((229, 1),),))))

    def test_what_was_handed_in_is_what_the_rig_tells(self):
        rig, changes = Rig(1), (put(1), put(2))
        deeds = (("step", MAKE), ("deal", changes))
        ahead = copy.deepcopy(deeds)
        done(rig, *deeds)
        self.same((deeds, rig.entries), (ahead, ahead))
        self.refused(BadNumber, 7, Rig, 7)
