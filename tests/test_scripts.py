"""Section 16: each line of a script, its answer word by word, and lines near it that are none."""

from samples import ANYTHING, Case, CHANGE_TEXTS, STEP_TEXTS, VIEW_TEXTS, chances
from toldmoment.desk import Desk
from toldmoment.errors import BadJournal, BadLine, BadLines, BadNumber, BadScript, MomentError
from toldmoment.journals import read_journal
from toldmoment.lines import answer_text
from toldmoment.rig import Rig
from toldmoment.schemas import step_in
from toldmoment.scripts import played

MAKE = "step make s who text pay int"
ANN, BOB = "deal put s 1 'ann 5", "deal put s 2 'bob none"
JOIN = "join 1 count s pay ; rows s who ; sum s pay who"

# Whatever rig it is said to, each of these is a line.
LINES = (
    "deal", "deal drop a 1 ; put a 1", *["deal " + text for _, text in CHANGE_TEXTS], *["step " + text for _, text in STEP_TEXTS],
    "compact 0", "compact -1", "compact 99999999999", "compact 999999999999", "compact 123456789012345678901234567890", "chunk 1 2",
    "chunk 0 -5", "chunk 2 1", "end 1", "end 0", "end -9", "row 1", "row 77", "send 0 0", "send -1 -1", "send 9 9", "answer 1", "answer 0",
    "answer -1", "hear 1 1", "hear 0 0", "hear -1 -1", "lose 1", "lose 0", "weaken 0 0", "weaken 1 1000001", "weaken -1 -1", "up 0", "up 1 all",
    "up 1 none", "up 1 5", "up 1 -5", "up 9 all none 0 120 121 all", "settle", "check", "bag", "show 1", "show 0", "show -1",
    *["join 1 " + text for _, text in VIEW_TEXTS], *["move 1 -1 " + text for _, text in VIEW_TEXTS], "join -1 count a x", "join 0 count a x",
    "join 1 " + " ; ".join(["count a x"] * 9), "move 0 99 rows a - if x > '; ; rows a - if x = ';", "join 999999999999 count a x",
)

NO_LINES = (
    "", " ", "a", "rig 1", "rig", "Deal", "deal ", " deal", "deal  put a 1", "deal put a 1 ;", "deal ; put a 1", "deal put a 1;drop a 1",
    "deal put a 0", "deal put A 1", "deal put a 01", "deal put a 1 x", "deal put a 1 01", "deal put a 1 100000000000", "deal drop a", "deal none",
    "deal drop a 1 ; ; drop a 2", "deal " + " ; ".join(["drop a 1"] * 13), "put a 1", "step", "step ", "step make", "step make A",
    "step make a x", "step make a x bool", "step gone", "step gone a b", "step part a b b", "step split a x y y -", "step  gone a", "make a",
    "compact", "compact ", "compact x", "compact 01", "compact +1", "compact -0", "compact 1 2", "compact 1 ", " compact 1", "compact  1",
    "compact none", "compact 1.0", "compact '1", "compact one", "compact -", "compact --1", "compact 1-", "compact 0x1", "compact 1_0", "chunk",
    "chunk 1", "chunk 1 2 3", "chunk 1 b", "chunk a 1", "chunk 1  2", "end", "end x", "end 1 1", "row", "row x", "row 1 1", "send", "send 0",
    "send 0 0 0", "send x 0", "answer", "answer x", "answer 1 1", "hear", "hear 1", "hear 1 1 1", "hear 1 x", "lose", "lose x", "lose 1 1",
    "weaken", "weaken 1", "weaken 1 x", "weaken 1 none", "weaken 1 1 1", "up", "up ", "up x", "up all", "up 1 ", "up 1 some", "up 1 ALL",
    "up 1 all ", "up 1  all", "up 1 01", "up 1 all;none", "up 1 x all", "settle ", "settle 1", "settled", "check 1", " check", "check ", "bag 1",
    "bags", "show", "show x", "show 1 1", "show 1 ", "join", "join 1", "join 1 ", "join count a x", "join x count a x", "join 01 count a x",
    "join 1 count a", "join 1 count a x ;", "join 1 count a x ; ", "join 1 ; count a x", "join 1 count a x;count a y", "join 1  count a x",
    "join 1 count a x ; ; count a y", "join 1 rows a", "join 1 count a x count a y", "join 1 2 count a x", "join 1 unfit", "move 1 count a x",
    "move 1 1", "move 1 1 ", "move", "move x 1 count a x", "move 1 x count a x", "move 1 1 count a x ; max a x", "Settle", "SETTLE", "settle\n",
    "check\t", "check\ncheck", "undo", "redo", "tried", "say check", "due 1", "do settle", "? NoOne", "-", "|", "none", "ok",
)


class Answers(Case):

    def plays(self, lines, answers, partitions=1):
        self.same(played("\n".join([f"rig {partitions}", *lines])), tuple(answers))

    def test_the_source_s_deeds(self):
        self.plays(
            (MAKE, ANN, "compact 1", BOB, "compact 9", "compact 0", "deal", "deal drop s 9", "deal put t 1", "deal put s 1 1 1", "step gone t",
             "step make s", "step add s pay int 5", "step turn s pay int 5 'x", "step cut s pay 'x", "step make t a int b int c int d int e int f int",
             "step add t g int none"),
            ("1", "2", "ok", "3", "? NoMoment", "? NoMoment", "4", "? NoRow", "? NoTable", "? BadValues", "? NoTable", "? There", "? There",
             "? BadKind", "? BadValue", "5", "? Full"))

    def test_chunks(self):
        self.plays(
            (MAKE, ANN, BOB, "chunk 1 9", "chunk 2 1", "chunk 0 1", "chunk 1 9", "row 1", "row 2", "row 1", "row 1", "row 9", "end 1", "end 1",
             "end 2", "bag", "row 1"),
            ("1", "2", "3", "1", "? BadKeys", "? BadKey", "2", "yes", "yes", "yes", "no", "? NoChunk", "1", "? NoChunk", "2", "1 2", "? NoChunk"))

    def test_letters(self):
        self.plays(
            ("send 0 0", "bag", MAKE, ANN, BOB, "send 0 0", "send 1 1", "send 2 0", "send 0 4", "bag", "lose 2", "lose 2", "bag", "lose 1", "lose 3",
             "lose 4", "lose 5", "bag", "compact 2", "send 0 1", "send 0 2"),
            ("none", "none", "1", "2", "3", "1 2 3", "4 5", "? NoPartition", "? NoMoment", "1 2 3 4 5", "ok", "? NoLetter", "1 3 4 5", "ok", "ok",
             "ok", "ok", "none", "ok", "6", "7"), 2)

    def test_consumers(self):
        self.plays(
            (MAKE, ANN, BOB, JOIN, "show 1", "answer 1", "hear 1 1", "show 1", "move 1 0 count s pay", "show 1", "move 1 2 count s pay",
             "move 1 1 rows s - ; pair s pay s ; rows s who if pay > 9", "show 1", "check", "answer 2", "hear 2 1", "hear 1 9", "show 2", "show 0",
             "join -1 count s pay", "join 0 " + " ; ".join(["count s pay"] * 5), "answer 0", "join 5 count s pay", "move 2 0 count s pay", "show 2"),
            ("1", "2", "3", "1", "none", "1", "ok", "3 | none 1 ; 5 1 | 1 'ann ; 2 'bob | 'ann 5 ; 'bob 0", "ok", "3 | unfit", "? NoEdition",
             "ok", "3 | 1 ; 2 | 1 'ann 5 none none ; 2 'bob none none none | -", "right", "? NoOne", "? NoOne", "? NoLetter", "? NoOne", "? NoOne",
             "? NoEdition", "? BadViews", "? NoOne", "2", "? Unready", "none"))

    def test_values_in_what_is_shown(self):
        self.plays(
            ("step make a x int y text", "deal put a 1 -5", "deal put a 2 99999999999 '; ; put a 3 99999999999 ' ; put a 4 2 'none",
             "join 1 sum a x y ; count a x ; pair a x a ; rows a y,x if y = none", "settle", "show 1"),
            ("1", "? BadValues", "2", "1", "3",
             "2 | ' 99999999999 ; '; 99999999999 ; 'none 2 | 2 1 ; 99999999999 2"
             " | 2 99999999999 '; none none ; 3 99999999999 ' none none ; 4 2 'none 99999999999 '; | -"))
        self.plays(
            ("step make a x int", "deal put a 1 99999999999 ; put a 2 99999999999 ; put a 3 none", "step make b y int", "deal put b 1 7",
             "join 2 sum a x x ; pair b y a", "settle", "show 1"),
            ("1", "2", "3", "4", "1", "3", "4 | none 0 ; 99999999999 199999999998 | 1 7 none"))

    def test_machines_that_fall(self):
        self.plays(
            (MAKE, JOIN, "settle", "weaken 1 0", "check", ANN, "send 0 1", "hear 1 2", "hear 1 3", "show 1", "move 1 1 count s pay", "answer 1",
             "weaken 1 5", "up 0", "up 1 -1", "up 1 all none 5", "up 1", "show 1", "hear 1 3", "show 1", "weaken 0 0", BOB, BOB, "step gone t",
             "compact 0", "chunk 1 1", "row 1", "end 1", "send 0 0", "answer 1", "weaken 0 1", "check", "bag", "up 0 1000 none", "weaken 2 0",
             "weaken 1 -1", "weaken 1 1000001", "up 2"),
            ("1", "1", "2", "up", "right", "2", "3 4", "ok", "fallen", "none", "down", "down", "down", "? Awake", "? BadFates", "up", "? Awake",
             "1 | - | - | -", "ok", "2 | 5 1 | 1 'ann | 'ann 5", "up", "fallen", "down", "down", "down", "down", "down", "down", "down", "down",
             "down", "right", "1 2 3 4", "up", "? NoOne", "? BadNumber", "? BadNumber", "? NoOne"))

    def test_fates_are_handed_on(self):
        told = set()
        for left in range(1, 7):
            for fates in ((), ("none", "none"), ("all", "all"), ("none", "all"), ("all", "none"), (3, 4), (999, "none"), ("none", 999)):
                rig = Rig(1)
                deeds = [("step", step_in(MAKE[5:])), ("weaken", 0, left), ("deal", ()), ("up", 0, fates), ("deal", ())]
                answers = [self.done(rig, deed) for deed in deeds]
                line = " ".join(["up 0", *[str(fate) for fate in fates]])
                self.plays((MAKE, f"weaken 0 {left}", "deal", line, "deal"), answers)
                told.add(tuple(answers))
        self.assertGreaterEqual(len(told), 3)

    def done(self, rig, deed):
        try:
            return str(rig.do(deed))
        except MomentError as error:
            return "? " + type(error).__name__

    def test_a_rig_that_is_not_right(self):
        self.same([answer_text("check", told) for told in (("right",), ("wrong", 0), ("wrong", 12))], ["right", "wrong 0", "wrong 12"])

    def test_settling(self):
        self.plays(("settle", "check", MAKE, "settle", "join 0 count s pay", "join 1 rows s who", "settle", "settle", "show 1", "show 2", "bag"),
                   ("1", "right", "1", "1", "1", "2", "2", "1", "1 | unfit", "1 | -", "1 2 3 4 5 6"))


class Texts(Case):

    def refuses(self, text, number):
        self.refused(BadScript, number, played, text)

    def test_the_first_line(self):
        for partitions in (1, 2, 3, 4):
            self.same(played(f"rig {partitions}"), ())
        for line in ("", "rig", "rig 0", "rig 5", "rig 1 ", " rig 1", "rig  1", "rig 01", "rig -1", "rig x", "Rig 1", "rig 1 2", "rig 1\t", "check",
                     "rig none", "1", "rig 1;check", "rig 12345678901234567890"):
            self.refuses(line, 1)
            self.refuses(line + "\ncheck", 1)
            self.refuses(line + "\nx", 1)
        self.refuses("\n", 1)
        self.refuses("\nrig 1", 1)

    def test_what_is_no_string(self):
        for value in ANYTHING:
            if not isinstance(value, str):
                self.refuses(value, 0)
                self.refused(BadJournal, 0, read_journal, value)
            else:
                self.refuses(value, 1)
                self.refused(BadJournal, 1, read_journal, value)
        self.refuses(("rig 1",), 0)

    def test_lines_behind_it(self):
        for text, number in (("rig 1\n", 2), ("rig 1\n\ncheck", 2), ("rig 1\nhear 1", 2), ("rig 1\ncheck\ncheck\n", 4), ("rig 1\ncheck \ncheck", 2),
                             ("rig 1\ncheck\nrig 1", 3), ("rig 1\r\ncheck", 1), ("rig 1\ncheck\r", 2), ("rig 1\ncheck\n\n\nx", 3)):
            self.refuses(text, number)
            self.refused(BadJournal, number, read_journal, text)

    def test_how_many_lines(self):
        self.same(played("\n".join(["rig 1"] + ["check"] * 100)), ("right",) * 100)
        for many in (101, 102, 300):
            self.refuses("\n".join(["rig 1"] + ["check"] * many), 102)
            self.refuses("\n".join(["rig 1"] + ["check"] * 100 + ["x"] * (many - 100)), 102)
            self.refuses("\n".join(["rig 1"] + ["check"] * 98 + ["x"] + ["check"] * (many - 99)), 100)
            self.refuses("\n".join(["rig 1"] + ["check"] * 99 + ["x"] + ["check"] * (many - 100)), 101)
            self.refuses("\n".join(["rig 7"] + ["check"] * many), 1)
            self.same(read_journal("\n".join(["rig 1"] + ["check"] * many)).answers, ("right",) * many)
        self.refuses("\n".join(["rig 1"] + ["check"] * 99 + ["x"]), 101)

    def test_each_line_and_those_near_it(self):
        for line in LINES:
            with self.subTest(line):
                self.assertEqual(len(played(f"rig 1\n{line}")), 1)
                self.same(Desk(1).say(line), played(f"rig 1\n{line}")[0])
                self.same(Desk(1).tried((line,)), played(f"rig 1\n{line}"))
        for line in NO_LINES:
            with self.subTest(line):
                lines = (line,)
                self.refused_with(BadLine, line, Desk(1).say, line)
                self.refused_with(BadLines, lines, Desk(1).tried, lines)
                if "\n" not in line:
                    self.refused(BadScript, 3, played, f"rig 1\ncheck\n{line}")

    def test_each_line_is_answered_in_a_new_rig(self):
        for line in LINES:
            word = line.split(" ")[0]
            answer = played(f"rig 1\n{line}")[0]
            self.assertRegex(answer, r"^(ok|yes|no|right|none|up|\? [A-Z][A-Za-z]+|[0-9]+( [0-9]+)*)$")
            if word in ("answer", "hear", "move", "weaken", "up", "show"):
                self.assertIn(answer, ("? NoOne", "? BadNumber", "? Awake", "up"))

    def test_by_name_and_twice(self):
        text = f"rig 2\n{MAKE}\n{ANN}\n{JOIN}\nsettle\nshow 1"
        for _ in range(2):
            self.same(played(text=text), ("1", "2", "1", "2", "2 | 5 1 | 1 'ann | 'ann 5"))

    def test_drawn_lines_near_right_ones(self):
        stood = 0
        for chance in chances(3000):
            line = chance.choice(LINES)
            at = chance.randrange(len(line))
            near = line[:at] + chance.choice(("", " ", ";", "x", "-", "1", "'", "all")) + line[at + chance.choice((0, 1)):]
            desk = Desk(1)
            try:
                answer = desk.say(near)
            except BadLine as error:
                self.same((error.value, desk.lines), (near, ()))
                self.refuses("rig 1\n" + near, 2)
            else:
                stood += 1
                self.same((desk.lines, desk.answers, played("rig 1\n" + near)), ((near,), (answer,), (answer,)))
        self.assertGreater(stood, 300)

    def test_partitions_are_handed_on(self):
        for partitions in (1, 2, 3, 4):
            self.same(played(f"rig {partitions}\n" + "\n".join(f"send {at} 0" for at in range(5))),
                      ("none",) * partitions + ("? NoPartition",) * (5 - partitions))
        self.refused(BadNumber, 5, Desk, 5)
