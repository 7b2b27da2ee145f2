"""Lines that lead a rig: what each one tells to do, or to look at, and how it is answered (section 16)."""

from toldmoment.errors import MomentError
from toldmoment.forms import is_entry, number_in
from toldmoment.letters import is_many
from toldmoment.schemas import entry_of, word_of
from toldmoment.views import UNFIT, view_in

# How many numbers stand behind the word of a line that has nothing else.
NUMBERS = {
    "compact": 1, "chunk": 2, "end": 1, "row": 1, "send": 2, "answer": 1, "hear": 2, "lose": 1, "weaken": 2,
    "settle": 0, "check": 0, "bag": 0, "show": 1,
}
# How many numbers stand ahead of the views of a line that ends with views.
AHEAD_OF_VIEWS = {"join": 1, "move": 2}
NOTHING = "none"


def command_in(line):
    """What any line tells: a deed, or what is looked at, a tuple behind its word; None of any value that is no line."""
    if not isinstance(line, str):
        return None
    words = line.split(" ")
    if words[0] in ("deal", "step"):
        entry = entry_of(line)
        return entry if is_entry(entry) else None
    if words[0] in NUMBERS:
        return numbers_told(words)
    if words[0] in AHEAD_OF_VIEWS:
        return views_told(words)
    return fates_told(words) if words[0] == "up" else None


def numbers_told(words):
    """What the line of a word, and numbers alone, tells, or None."""
    numbers = [number_in(word) for word in words[1:]]
    if len(numbers) != NUMBERS[words[0]] or None in numbers:
        return None
    return (words[0], *numbers)


def views_told(words):
    """What a line that ends with views tells, or None."""
    many = AHEAD_OF_VIEWS[words[0]]
    numbers = [number_in(word) for word in words[1:many + 1]]
    views = [view_in(text) for text in " ".join(words[many + 1:]).split(" ; ")]
    if None in numbers or None in views:
        return None
    return (words[0], *numbers, tuple(views))


def fates_told(words):
    """What a line that ends with fates tells, or None."""
    numbers = [number_in(word) for word in words[1:2]]
    fates = [word if word in ("all", "none") else number_in(word) for word in words[2:]]
    if len(numbers) == 0 or None in numbers or None in fates:
        return None
    return ("up", *numbers, tuple(fates))


def partitions_in(line):
    """The partitions that the first line of a script tells, or None."""
    words = line.split(" ")
    if len(words) != 2 or words[0] != "rig":
        return None
    partitions = number_in(words[1])
    return partitions if is_many(partitions) else None


def first_none(text, most):
    """The number of the first line of any text that cannot stand in a script, 0 for what is no string; None if all can.

    At most so many lines may stand behind the first one; any number if most is None.
    """
    if not isinstance(text, str):
        return 0
    for number, line in enumerate(text.split("\n"), 1):
        told = partitions_in(line) if number == 1 else command_in(line)
        if told is None or (most is not None and number > most + 1):
            return number
    return None


def answer_to(rig, line):
    """The rig's answer to the line."""
    command = command_in(line)
    try:
        told = told_by(rig, command)
    except MomentError as error:
        return "? " + type(error).__name__
    return answer_text(command[0], told)


def told_by(rig, command):
    """What the rig tells."""
    if command[0] == "settle":
        return rig.settle()
    if command[0] == "check":
        return rig.check()
    if command[0] == "bag":
        return tuple([number for number, _ in rig.bag])
    if command[0] == "show":
        return rig.shown(command[1])
    return rig.do(command)


def answer_text(word, told):
    """What a rig told, as a line with this word is answered."""
    if word == "show":
        return NOTHING if told is None else shown_text(told)
    if word == "check":
        return " ".join([told[0], *[str(who) for who in told[1:]]])
    if isinstance(told, bool):
        return "yes" if told else "no"
    if isinstance(told, tuple):
        return " ".join([str(number) for number in told]) if len(told) > 0 else NOTHING
    return "ok" if told is None else str(told)


def shown_text(told):
    """The moment and the tables that a consumer shows."""
    moment, tables = told
    return " ".join([str(moment), *["| " + table_text(table) for table in tables]])


def table_text(table):
    """What a view shows."""
    if table == UNFIT:
        return "unfit"
    return "-" if len(table) == 0 else " ; ".join([row_text(row) for row in table])


def row_text(row):
    """The words of all values that a row has."""
    parts = [part if isinstance(part, tuple) else (part,) for part in row]
    return " ".join([word_of(value) for part in parts for value in part])
