"""A desk: a rig that is led line by line, with lines taken back and said again (section 16)."""

from toldmoment.errors import BadLine, BadLines, NothingToRedo, NothingToUndo
from toldmoment.forms import is_short
from toldmoment.lines import answer_to, command_in
from toldmoment.rig import Rig

MOST_TRIED = 20


class Desk:
    """A rig under hands."""

    def __init__(self, partitions):
        self.rig = Rig(partitions)
        self.partitions = partitions
        self.lines = ()
        self.answers = ()
        # The lines that were taken back, and may be said again, the last one last.
        self._undone = ()

    def __eq__(self, other):
        return isinstance(other, Desk) and self.partitions == other.partitions and self.lines == other.lines

    def say(self, line):
        """Says a line; its answer."""
        if command_in(line) is None:
            raise BadLine(line)
        self._undone = ()
        return self._say(line)

    def undo(self):
        """Takes the last line back."""
        if len(self.lines) == 0:
            raise NothingToUndo(None)
        self._undone = (*self._undone, self.lines[-1])
        # A rig only goes on: that of the other lines is led anew.
        self.rig = led_rig(self.partitions, self.lines[:-1])
        self.lines = self.lines[:-1]
        self.answers = self.answers[:-1]

    def redo(self):
        """Says the line again that was taken back last."""
        if len(self._undone) == 0:
            raise NothingToRedo(None)
        line = self._undone[-1]
        self._undone = self._undone[:-1]
        self._say(line)

    def tried(self, lines):
        """The answers that these lines would get."""
        if not is_short(lines, MOST_TRIED) or None in [command_in(line) for line in lines]:
            raise BadLines(lines)
        rig = led_rig(self.partitions, self.lines)
        return tuple([answer_to(rig, line) for line in lines])

    def copy(self):
        """A desk of its own, alike in all things."""
        other = Desk(self.partitions)
        other.rig = led_rig(self.partitions, self.lines)
        other.lines = self.lines
        other.answers = self.answers
        other._undone = self._undone
        return other

    def _say(self, line):
        """Lets the line stand, with its answer."""
        answer = answer_to(self.rig, line)
        self.lines = (*self.lines, line)
        self.answers = (*self.answers, answer)
        return answer


def led_rig(partitions, lines):
    """A new rig, led by these lines."""
    rig = Rig(partitions)
    for line in lines:
        answer_to(rig, line)
    return rig
