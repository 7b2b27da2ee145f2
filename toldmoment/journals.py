"""Journals: what was said at a desk, as a text, and a desk at which that is said (section 16)."""

from toldmoment.desk import Desk
from toldmoment.errors import BadJournal
from toldmoment.lines import first_none, partitions_in


def journal(desk):
    """The desk's partitions, and the lines that stand."""
    return "\n".join(["rig " + str(desk.partitions), *desk.lines])


def read_journal(text):
    """The desk of which this is the journal."""
    number = first_none(text, None)
    if number is not None:
        raise BadJournal(number)
    first, *lines = text.split("\n")
    desk = Desk(partitions_in(first))
    for line in lines:
        desk.say(line)
    return desk
