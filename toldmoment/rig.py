"""A rig: a source, a bag of letters, and consumers, led deed by deed while letters get lost and machines fall."""

from toldmoment.consumers import joined
from toldmoment.disks import MOST_LEFT, Disk
from toldmoment.errors import Awake, BadDeed, BadFates, BadNumber, Fallen, NoLetter, NoOne
from toldmoment.forms import is_integer
from toldmoment.histories import editions_among, entry_behind, state_seen, steps_among
from toldmoment.machines import SOURCE, Machine, are_fates
from toldmoment.source import founded
from toldmoment.views import shown_of

# How many parts each deed has.
DEEDS = {
    "deal": 2, "step": 2, "compact": 2, "chunk": 3, "row": 2, "end": 2, "send": 3, "answer": 2, "hear": 3, "lose": 2,
    "join": 3, "move": 4, "weaken": 3, "up": 3,
}
# The deeds that the source does.
OF_SOURCE = ("deal", "step", "compact", "chunk", "row", "end", "send")
# The deeds of which the second part is a consumer, or any machine.
OF_CONSUMER = ("answer", "hear", "move")
OF_ANYONE = ("weaken", "up")
# The deeds of which the last part is a letter's number.
OF_LETTER = ("hear", "lose")
# How many rows a chunk has that answers for keys.
ROWS_ANSWERED = 3


class Rig:
    """A source and its consumers, the letters between them, and the history against which they are held."""

    def __init__(self, partitions):
        disk = Disk()
        self._partitions = partitions
        self._machines = (Machine(SOURCE, disk, founded(disk, partitions)),)
        self._many_letters = 0
        # The schema and the state at each moment of the history.
        self._stands = (((), ()),)
        self.entries = ()
        self.bag = ()
        self.down = ()

    def do(self, deed):
        """Does a deed; what it answers."""
        self._want_deed(deed)
        needed = self._needed(deed)
        if any([machine.is_down() for machine in needed]):
            return "down"
        deeds = {
            "deal": self._enter, "step": self._enter, "compact": self._compact, "chunk": self._chunk, "row": self._row,
            "end": self._end, "send": self._send, "answer": self._answer, "hear": self._hear, "lose": self._lose,
            "join": self._join, "move": self._move, "weaken": self._weaken, "up": self._up,
        }
        act = deeds[deed[0]]
        try:
            return act(deed)
        except Fallen:
            # Only one machine writes in a deed: no deed that needs two of them does.
            needed[0].fall()
            self._note_down()
            return "fallen"

    def shown(self, who):
        """The moment and the tables that the consumer shows; None if it is down, or shows nothing."""
        return self._consumer(who).shown()

    def due(self, who):
        """The moment that the consumer shows, and the tables that it must show there."""
        machine = self._consumer(who)
        if machine.shown() is None:
            return None
        moment, edition = machine.runs.moment, machine.runs.edition
        entries = self.entries[:moment]
        editions = editions_among(self._stands, entries)
        state = state_seen(editions, steps_among(entries), self._stands[moment][1], edition)
        return moment, tuple([shown_of(editions[edition], state, view) for view in machine.runs.views])

    def check(self):
        """Whether all machines are right, or the least one that is not."""
        for machine in self._machines:
            if not machine.is_down() and not self._is_right(machine):
                return ("wrong", machine.who)
        return ("right",)

    def settle(self):
        """Opens all machines anew, and answers till nothing changes any more; how many rounds that takes."""
        for machine in self._machines:
            self._open(machine, machine.cut_disk(()) if machine.is_down() else machine.rested_disk(None))
        rounds, ahead, asked = 0, None, self._asked()
        while asked != ahead:
            for machine in self._machines[1:]:
                for number in self._answered(machine):
                    machine.hear(self._letter(number))
            rounds, ahead, asked = rounds + 1, asked, self._asked()
        return rounds

    def _want_deed(self, deed):
        """Raises what is due of a deed whatever machine is down."""
        if not isinstance(deed, tuple) or len(deed) == 0 or not isinstance(deed[0], str):
            raise BadDeed(deed)
        if deed[0] not in DEEDS or len(deed) != DEEDS[deed[0]]:
            raise BadDeed(deed)
        if deed[0] in OF_CONSUMER:
            self._consumer(deed[1])
        elif deed[0] in OF_ANYONE and not self._is_one(deed[1], SOURCE):
            raise NoOne(deed[1])
        if deed[0] in OF_LETTER and (not is_integer(deed[-1]) or deed[-1] not in dict(self.bag)):
            raise NoLetter(deed[-1])
        if deed[0] == "weaken" and not is_left(deed[2]):
            raise BadNumber(deed[2])

    def _needed(self, deed):
        """The machines without which the deed can't be done."""
        if deed[0] == "answer":
            return [self._machines[SOURCE], self._machines[deed[1]]]
        if deed[0] in OF_SOURCE:
            return [self._machines[SOURCE]]
        return [self._machines[deed[1]]] if deed[0] in ("hear", "move", "weaken") else []

    def _is_one(self, value, least):
        """Whether value is one of the machines from this one on."""
        return is_integer(value) and least <= value < len(self._machines)

    def _consumer(self, who):
        """The machine of this consumer; NoOne if who is none."""
        if not self._is_one(who, SOURCE + 1):
            raise NoOne(who)
        return self._machines[who]

    def _source(self):
        """What runs on the source's machine."""
        return self._machines[SOURCE].runs

    # From here on: what is done, and answered, by the words of the deeds.

    def _enter(self, deed):
        """A deal or a step: the deed has the form of the entry."""
        moment = self._source().deal(deed[1]) if deed[0] == "deal" else self._source().step(deed[1])
        self._note_entry(deed)
        return moment

    def _compact(self, deed):
        return self._source().compact(deed[1])

    def _chunk(self, deed):
        return self._source().chunk(deed[1], deed[2])

    def _row(self, deed):
        return self._source().chunk_row(deed[1])

    def _end(self, deed):
        return self._bagged((self._source().chunk_end(deed[1]),))[0]

    def _send(self, deed):
        return self._bagged(self._source().letters(deed[1], deed[2]))

    def _answer(self, deed):
        return self._answered(self._machines[deed[1]])

    def _hear(self, deed):
        self._machines[deed[1]].hear(self._letter(deed[2]))

    def _lose(self, deed):
        self.bag = tuple([part for part in self.bag if part[0] != deed[1]])

    def _join(self, deed):
        disk, who = Disk(), len(self._machines)
        consumer = joined(disk, self._partitions, deed[1], deed[2])
        self._machines = (*self._machines, Machine(who, disk, consumer))
        return who

    def _move(self, deed):
        self._machines[deed[1]].runs.move(deed[2], deed[3])

    def _weaken(self, deed):
        machine = self._machines[deed[1]]
        return self._open(machine, machine.rested_disk(deed[2]))

    def _up(self, deed):
        _, who, fates = deed
        machine = self._machines[who]
        if not machine.is_down():
            raise Awake(who)
        if not are_fates(fates):
            raise BadFates(fates)
        return self._open(machine, machine.cut_disk(fates))

    # And what several of these need.

    def _open(self, machine, disk):
        """Opens the machine anew on this disk; "up", or "fallen"."""
        answer = machine.start(disk)
        # Of a deed that fell the entry may be found.
        if machine.who == SOURCE and answer == "up" and self._source().moment > len(self.entries):
            self._note_entry(self._source().entries[-1])
        self._note_down()
        return answer

    def _note_entry(self, entry):
        """Notes one entry more of the history."""
        schema, state = self._stands[-1]
        self._stands = (*self._stands, entry_behind(schema, state, entry))
        self.entries = (*self.entries, entry)

    def _note_down(self):
        """Notes which machines are down."""
        self.down = tuple([machine.who for machine in self._machines if machine.is_down()])

    def _bagged(self, letters):
        """Puts letters into the bag; their numbers."""
        numbers = tuple([self._many_letters + at for at in range(1, len(letters) + 1)])
        self._many_letters += len(letters)
        self.bag = (*self.bag, *list(zip(numbers, letters)))
        return numbers

    def _letter(self, number):
        """The letter of this number in the bag."""
        return dict(self.bag)[number]

    def _answered(self, machine):
        """Answers all that the consumer asks; the letters' numbers."""
        numbers = []
        for word, one, other in machine.runs.asks():
            letters = self._source().letters(one, other) if word == "letters" else (self._read(one, other),)
            numbers.extend(self._bagged(letters))
        return tuple(numbers)

    def _read(self, low, high):
        """The letter of a chunk over these keys, of a few rows at most."""
        source = self._source()
        chunk = source.chunk(low, high)
        for _ in range(ROWS_ANSWERED):
            if not source.chunk_row(chunk):
                break
        return source.chunk_end(chunk)

    def _asked(self):
        """What asks and shown tell of all consumers."""
        return [(machine.runs.asks(), machine.shown()) for machine in self._machines[1:]]

    def _is_right(self, machine):
        """Whether a machine that is up tells what the history tells."""
        if machine.who != SOURCE:
            return machine.shown() == self.due(machine.who) and not machine.has_gone_back()
        source = machine.runs
        there = (len(self.entries), steps_among(self.entries), self._stands[-1][1])
        return (source.moment, source.steps, source.state) == there


def is_left(value):
    """Whether a disk may have so many writes and syncs left."""
    return is_integer(value) and 0 <= value <= MOST_LEFT
