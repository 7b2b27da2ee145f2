"""How steps, rows and entries lie in a book: a record each, the words of its text behind one that tells what it is."""

from toldmoment.forms import integer_in
from toldmoment.schemas import entry_in, entry_text, step_in, step_text, stepped, value_in, value_text

PAST = "past"
ROW = "row"
# The words with which an entry's text begins.
ENTRIES = ("deal", "step")


def step_records(steps):
    """The records of steps that are past."""
    return tuple([(PAST, *step_text(step).split(" ")) for step in steps])


def row_records(state):
    """The records of a state's rows."""
    return tuple([
        (ROW, table, str(key), *[value_text(value) for value in values])
        for table, rows in state for key, values in rows
    ])


def entry_record(entry):
    """The record of an entry."""
    return tuple(entry_text(entry).split(" "))


def entry_records(entries):
    """The records of entries."""
    return tuple([entry_record(entry) for entry in entries])


def steps_stored(records):
    """The past steps among records."""
    return tuple([step_in(" ".join(record[1:])) for record in records if record[0] == PAST])


def entries_stored(records):
    """The entries among records."""
    return tuple([entry_in(" ".join(record)) for record in records if record[0] in ENTRIES])


def state_stored(schema, records):
    """The state of the schema whose rows are among records, in the sequence in which row_records told them."""
    found = {table: [] for table, _ in schema}
    for record in records:
        if record[0] == ROW:
            found[record[1]].append((integer_in(record[2]), tuple([value_in(word) for word in record[3:]])))
    return tuple([(table, tuple(found[table])) for table, _ in schema])


def editions_of(steps):
    """The schemas of all editions that the steps lead to, from no tables on."""
    editions = [()]
    for step in steps:
        editions.append(stepped(editions[-1], step))
    return tuple(editions)
