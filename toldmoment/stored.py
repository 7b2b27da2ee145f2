"""How steps, rows and entries lie in a book: a record each, the words of its text behind one that tells what it is."""

from toldmoment.errors import BadRecords
from toldmoment.forms import MOST_CHANGES, is_state
from toldmoment.schemas import change_in, entry_in, entry_text, step_in, step_text, stepped, value_text

PAST = "past"
ROW = "row"
# The words with which an entry's text begins.
ENTRIES = ("deal", "step")


def step_records(steps):
    """The records of steps that are past."""
    return tuple([(PAST, *step_text(step).split(" ")) for step in steps])


def row_records(state):
    """The records of a state's rows."""
    return tuple([
        (ROW, table, str(key), *[value_text(value) for value in values])
        for table, rows in state for key, values in rows
    ])


def entry_record(entry):
    """The record of an entry."""
    return tuple(entry_text(entry).split(" "))


def entry_records(entries):
    """The records of entries."""
    return tuple([entry_record(entry) for entry in entries])


def is_entry_record(record):
    """Whether the record begins as one of an entry does."""
    return len(record) > 0 and record[0] in ENTRIES


def entries_stored(records):
    """The entries that these records tell; BadText if one of them tells none."""
    return tuple([entry_in(" ".join(record)) for record in records])


def base_stored(records):
    """The steps that these records tell, the schemas of all editions, and the state behind the steps.

    Any book may be handed in: BadText, what stepped raises, or BadRecords, if these are not just such records as
    step_records and row_records tell.
    """
    steps = tuple([step_in(" ".join(record[1:])) for record in records if record[:1] == (PAST,)])
    editions = editions_of(steps)
    # A row's record has the words of a put.
    puts = [change_in(" ".join(("put", *record[1:]))) for record in records if record[:1] == (ROW,)]
    state = tuple([(table, tuple([put[2:] for put in puts if put[1] == table])) for table, _ in editions[-1]])
    if not is_state(editions[-1], state) or (*step_records(steps), *row_records(state)) != records:
        raise BadRecords(records)
    return steps, editions, state


def least_moment(many_steps, keys):
    """The least moment at which so many steps can have been done, and rows can lie under these keys."""
    return many_steps + (len(keys) + MOST_CHANGES - 1) // MOST_CHANGES


def editions_of(steps):
    """The schemas of all editions that the steps lead to, from no tables on."""
    editions = [()]
    for step in steps:
        editions.append(stepped(editions[-1], step))
    return tuple(editions)
