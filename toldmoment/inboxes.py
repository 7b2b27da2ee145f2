"""Inboxes: letters come in any sequence, twice or never, and go out as whole moments (section 10)."""

from toldmoment.errors import BadLetter, BadMoment, Clash
from toldmoment.forms import is_integer
from toldmoment.letters import is_letter, want_many, want_moment, want_partition


class Inbox:
    """Letters heard behind a moment."""

    def __init__(self, many, moment):
        want_many(many)
        want_moment(moment)
        self.many = many
        self.moment = moment
        self._held = ()

    def hear(self, letter):
        """Holds the letter, if it tells something new."""
        if not is_letter(letter, self.many):
            raise BadLetter(letter)
        if moment_of(letter) <= self.moment or letter in self._held:
            return
        if any([clash(letter, other) for other in self._held]):
            raise Clash((letter[1], moment_of(letter)))
        self._held = (*self._held, letter)

    def reach(self, partition):
        """The greatest moment up to which all letters of this partition are known."""
        want_partition(partition, self.many)
        known = self.moment
        for moment, before in sorted([letter[2:4] for letter in self._held if letter[1] == partition]):
            if before <= known:
                known = moment
        return known

    def newest(self):
        """The moment up to which everything is known."""
        return min(self._reaches())

    def whole(self):
        """The moments that are known wholly, and not done, each with its entry."""
        newest = self.newest()
        told = {}
        for letter in self._held:
            if not is_mark(letter) and moment_of(letter) <= newest:
                told.setdefault(moment_of(letter), {})[letter[1]] = letter
        return tuple([(moment, entry_of(told[moment])) for moment in sorted(told)])

    def done(self, moment):
        """Lets go what is told up to this moment."""
        if not is_integer(moment) or not self.moment <= moment <= self.newest():
            raise BadMoment(moment)
        self.moment = moment
        self._held = tuple([letter for letter in self._held if moment_of(letter) > moment])

    def asks(self):
        """What should be sent again: each partition that lacks letters, and above which moment."""
        greatest = max([moment_of(letter) for letter in self._held], default=self.moment)
        return tuple([(partition, known) for partition, known in enumerate(self._reaches()) if known < greatest])

    def _reaches(self):
        """The reach of each partition."""
        return [self.reach(partition) for partition in range(self.many)]


def is_mark(letter):
    """Whether the letter tells only that there is none."""
    return letter[0] == "mark"


def moment_of(letter):
    """The letter's moment."""
    return letter[2]


def entry_of(letters):
    """The entry that the letters of one moment tell, of a dict by partitions."""
    parts = [letters[partition] for partition in sorted(letters)]
    if parts[0][0] == "step":
        return ("step", parts[0][4])
    return ("deal", tuple([change for part in parts for change in part[4]]))


def clash(one, other):
    """Whether two letters cannot both be true."""
    if one[1] != other[1]:
        return are_of_one_moment(one, other) and "step" in (one[0], other[0]) and not tell_alike(one, other)
    if are_of_one_moment(one, other) and not tell_alike(one, other):
        return True
    return is_denied(one, other) or is_denied(other, one)


def are_of_one_moment(one, other):
    """Whether both letters, no marks, have the same moment."""
    return not is_mark(one) and not is_mark(other) and moment_of(one) == moment_of(other)


def tell_alike(one, other):
    """Whether both letters, no marks, tell the same."""
    return (one[0], one[4]) == (other[0], other[4])


def is_denied(letter, other):
    """Whether the letter, no mark, lies where the other one of its partition tells that there is none."""
    if is_mark(letter) or moment_of(letter) <= other[3]:
        return False
    return moment_of(letter) < moment_of(other) or (is_mark(other) and moment_of(letter) == moment_of(other))
