"""Scripts: texts whose lines lead a new rig (section 16)."""

from toldmoment.errors import BadScript
from toldmoment.lines import answer_to, first_none, partitions_in
from toldmoment.rig import Rig

MOST_LINES = 100


def played(text):
    """The answers of a new rig to the lines behind the first one."""
    number = first_none(text, MOST_LINES)
    if number is not None:
        raise BadScript(number)
    first, *lines = text.split("\n")
    rig = Rig(partitions_in(first))
    return tuple([answer_to(rig, line) for line in lines])
