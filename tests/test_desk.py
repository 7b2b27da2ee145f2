"""Section 16: desks in any sequence of say, undo, redo, tried and copy, and their journals, against a new rig."""

import copy

from samples import ANYTHING, Case, chances
from test_scripts import ANN, BOB, JOIN, LINES, MAKE, NO_LINES
from toldmoment.desk import Desk
from toldmoment.errors import BadJournal, BadLine, BadLines, BadNumber, NothingToRedo, NothingToUndo
from toldmoment.journals import journal, read_journal
from toldmoment.rig import Rig
from toldmoment.scripts import played

SAID = (
    MAKE, ANN, BOB, JOIN, "settle", "check", "bag", "show 1", "show 2", "answer 1", "hear 1 1", "hear 1 2", "hear 1 3", "lose 2", "deal drop s 1",
    "step cut s pay 7", "weaken 1 3", "weaken 0 2", "up 1 all 4", "up 0 none", "chunk 1 9", "row 1", "end 1", "send 0 0", "compact 1",
    "move 1 0 count s pay", "step name s who name", "join 2 rows s -",
)


def told_of(desk):
    rig = desk.rig
    return desk.partitions, desk.lines, desk.answers, rig.entries, rig.bag, rig.down, rig.check(), journal(desk)


def answers_of(partitions, lines):
    """What a new rig answers to the lines, a hundred at most."""
    return played("\n".join([f"rig {partitions}", *lines]))


class Held(Case):
    """A desk beside the lines that stand, and those that were taken back."""

    def stands(self, desk, partitions, lines):
        self.same((desk.partitions, desk.lines, desk.answers), (partitions, tuple(lines), answers_of(partitions, lines)))
        other = Desk(partitions)
        for line in lines:
            other.say(line)
        self.same(told_of(desk), told_of(other))
        self.assertTrue(desk == other)
        self.assertIsInstance(desk.rig, Rig)
        self.same([desk.rig.shown(who) for who in self.consumers(desk)], [other.rig.shown(who) for who in self.consumers(desk)])

    def consumers(self, desk):
        return range(1, 1 + sum(line.startswith("join") and not answer.startswith("?") for line, answer in zip(desk.lines, desk.answers)))

    def test_in_any_sequence(self):
        for chance in chances(80):
            partitions = chance.randint(1, 4)
            desk, lines, undone = Desk(partitions), [], []
            for _ in range(25):
                way = chance.random()
                if way < 0.5:
                    line = chance.choice(SAID)
                    lines.append(line)
                    undone = []
                    self.same(desk.say(line), answers_of(partitions, lines)[-1])
                elif way < 0.65:
                    if lines:
                        undone.append(lines.pop())
                        self.assertIsNone(desk.undo())
                    else:
                        self.refused(NothingToUndo, None, desk.undo)
                elif way < 0.8:
                    if undone:
                        lines.append(undone.pop())
                        self.assertIsNone(desk.redo())
                    else:
                        self.refused(NothingToRedo, None, desk.redo)
                elif way < 0.9:
                    some = tuple(chance.choice(SAID) for _ in range(chance.randint(0, 20)))
                    self.same(desk.tried(some), answers_of(partitions, [*lines, *some])[len(lines):])
                else:
                    desk = self.copied(chance, desk)
                self.stands(desk, partitions, lines)

    def copied(self, chance, desk):
        """A copy, or the desk itself when its copy went its own way."""
        other = desk.copy()
        self.assertIsNot(other, desk)
        self.assertIsNot(other.rig, desk.rig)
        self.same(told_of(other), told_of(desk))
        self.assertTrue(other == desk)
        if chance.random() < 0.5:
            return other
        ahead = told_of(desk)
        other.say(chance.choice(SAID))
        self.assertFalse(other == desk)
        self.same(told_of(desk), ahead)
        return desk


class Deeds(Case):

    def test_a_new_desk(self):
        for partitions in (1, 2, 3, 4):
            desk = Desk(partitions)
            self.same((desk.partitions, desk.lines, desk.answers, journal(desk)), (partitions, (), (), f"rig {partitions}"))
            self.same((desk.rig.entries, desk.rig.bag, desk.rig.check()), ((), (), ("right",)))
            self.refused(NothingToUndo, None, desk.undo)
            self.refused(NothingToRedo, None, desk.redo)
            self.same(desk.tried(()), ())
        for value in (0, 5, -1, *[value for value in ANYTHING if value != 1 or value is True]):
            self.refused_with(BadNumber, value, Desk, value)

    def test_what_is_no_line(self):
        desk = Desk(1)
        for line in (MAKE, JOIN, "settle", "check"):
            desk.say(line)
        desk.undo()
        ahead = told_of(desk)
        for line in (*ANYTHING, *NO_LINES, [], ["check"], ("check",)):
            self.refused_with(BadLine, line, desk.say, line)
            for lines in ((line,), ("check", line), (line, "check"), ("check",) * 19 + (line,)):
                self.refused_with(BadLines, lines, desk.tried, lines)
        for lines in (*[value for value in ANYTHING if value not in ((), ("deal",))], "check", ["check"], ("check",) * 21, {"check": 1}):
            self.refused_with(BadLines, lines, desk.tried, lines)
        self.same(told_of(desk), ahead)
        # What is refused leaves what may be said again.
        self.assertIsNone(desk.redo())
        self.same(desk.lines[-1], "check")

    def test_as_many_as_may_be_tried(self):
        desk = Desk(1)
        self.same(desk.tried(("deal",) * 20), tuple(str(number) for number in range(1, 21)))
        self.same((desk.lines, desk.rig.entries), ((), ()))

    def test_a_line_that_is_refused_stands(self):
        desk = Desk(1)
        self.same([desk.say(line) for line in ("hear 1 1", "up 0", "deal drop s 1")], ["? NoOne", "? Awake", "? NoTable"])
        self.same((desk.lines, desk.answers), (("hear 1 1", "up 0", "deal drop s 1"), ("? NoOne", "? Awake", "? NoTable")))
        desk.undo()
        self.same(desk.lines, ("hear 1 1", "up 0"))

    def test_redo_behind_a_new_line(self):
        desk = Desk(1)
        for line in (MAKE, ANN, BOB):
            desk.say(line)
        desk.undo()
        desk.undo()
        desk.redo()
        self.same(desk.lines, (MAKE, ANN))
        desk.redo()
        self.refused(NothingToRedo, None, desk.redo)
        desk.undo()
        self.same(desk.say(BOB), "3")
        self.refused(NothingToRedo, None, desk.redo)
        desk.undo()
        desk.undo()
        desk.tried(("check",))
        self.same(desk.lines, (MAKE,))
        other = desk.copy()
        desk.redo()
        desk.redo()
        self.same(desk.lines, (MAKE, ANN, BOB))
        self.same(other.lines, (MAKE,))
        other.redo()
        other.redo()
        self.assertTrue(other == desk)
        self.refused(NothingToRedo, None, other.redo)

    def test_undo_to_the_beginning_and_back(self):
        desk = Desk(2)
        for line in LINES:
            desk.say(line)
        ahead = told_of(desk)
        for _ in LINES:
            desk.undo()
        self.refused(NothingToUndo, None, desk.undo)
        self.same(told_of(desk), told_of(Desk(2)))
        for _ in LINES:
            desk.redo()
        self.same(told_of(desk), ahead)

    def test_equal_and_unlike(self):
        one, two = Desk(1), Desk(1)
        for line in (MAKE, ANN):
            self.assertTrue(one == two)
            self.assertFalse(one != two)
            one.say(line)
            self.assertFalse(one == two)
            self.assertTrue(one != two)
            two.say(line)
        two.undo()
        self.assertFalse(one == two)
        two.redo()
        self.assertTrue(one == two)
        self.assertFalse(Desk(1) == Desk(2))
        for other in (*ANYTHING, journal(one), one.lines, one.rig, Rig(1)):
            self.assertFalse(one == other)
            self.assertTrue(one != other)

    def test_by_name_and_unaltered(self):
        desk = Desk(partitions=1)
        self.same(desk.say(line=MAKE), "1")
        lines = (ANN, "show 1")
        ahead = copy.deepcopy(lines)
        for _ in range(2):
            self.same(desk.tried(lines=lines), ("2", "? NoOne"))
            self.same(journal(desk=desk), "rig 1\n" + MAKE)
            self.assertTrue(read_journal(text="rig 1\n" + MAKE) == desk)
        self.same(lines, ahead)


class Journals(Case):

    def test_there_and_back(self):
        for chance in chances(60):
            desk = Desk(chance.randint(1, 4))
            for _ in range(chance.randint(0, 30)):
                desk.say(chance.choice(SAID))
            text = journal(desk)
            self.same(text.split("\n"), [f"rig {desk.partitions}", *desk.lines])
            found = read_journal(text)
            self.assertIsInstance(found, Desk)
            self.assertTrue(found == desk)
            self.same(told_of(found), told_of(desk))
            self.same(journal(found), text)
            self.same(played(text), desk.answers)
            self.refused(NothingToRedo, None, found.redo)
            if desk.lines:
                found.undo()
                self.same(journal(found), "\n".join(text.split("\n")[:-1]))

    def test_of_more_than_100_lines(self):
        desk = Desk(3)
        for number in range(150):
            desk.say("deal" if number else MAKE)
        found = read_journal(journal(desk))
        self.same(told_of(found), told_of(desk))
        self.same(found.answers[-1], "150")

    def test_near_right_ones(self):
        lines = ["rig 2", MAKE, ANN, JOIN, "settle", "show 1"] + ["check"] * 110
        for at in range(len(lines)):
            for line in ("", "x", lines[at] + " ", " " + lines[at], lines[at] + "\nx"):
                text = "\n".join([*lines[:at], line, *lines[at + 1:]])
                self.refused(BadJournal, at + 2 if line.endswith("\nx") else at + 1, read_journal, text)
        self.refused(BadJournal, len(lines) + 1, read_journal, "\n".join(lines) + "\n")
        self.refused(BadJournal, 1, read_journal, "")
        self.refused(BadJournal, 1, read_journal, "rig 5")
        self.refused(BadJournal, 1, read_journal, "\n".join(lines[1:]))
        self.refused(BadJournal, 2, read_journal, "rig 1\nrig 1")
