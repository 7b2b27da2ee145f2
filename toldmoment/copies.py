"""Copies that are read amid writing: chunks, and what they tell together with the entries since (section 11)."""

from toldmoment.errors import BadChunks, BadEntries, BadLetter, Lacks
from toldmoment.forms import (
    GREATEST_KEY, MOST_PARTS, is_ascending, is_entry, is_integer, is_key, is_name, is_pair, is_short, is_step, is_value,
)
from toldmoment.letters import is_moment
from toldmoment.maps import state_there
from toldmoment.schemas import stepped
from toldmoment.states import sorted_rows
from toldmoment.stored import editions_of


def counts(chunks, letter):
    """Whether a chunk's letter counts behind these chunks of a copy."""
    want_chunks(chunks)
    if not is_chunk(letter):
        raise BadLetter(letter)
    return is_next(chunks, letter)


def lacking(chunks):
    """The least key that no chunk covers, or None."""
    want_chunks(chunks)
    return key_lacking(chunks)


def copied(chunks, entries):
    """What chunks of a copy, and the entries since, tell: a moment, and the steps, the schema and the state there."""
    want_chunks(chunks)
    if key_lacking(chunks) is not None:
        raise Lacks(key_lacking(chunks))
    low, moment = lowest_of(chunks), greatest_of(chunks)
    if not isinstance(entries, tuple) or len(entries) != moment - low or not all([is_entry(part) for part in entries]):
        raise BadEntries(moment - low)
    return (moment, *copy_told(chunks, list(enumerate(entries, low + 1))))


# From here on: what is asked of chunks of a copy, which is not looked at.


def is_next(chunks, letter):
    """As counts."""
    first, last = letter[2]
    if last < first:
        return False
    if len(chunks) == 0:
        return first == 1
    return first == last_of(chunks) + 1 and letter[1][0] >= lowest_of(chunks)


def key_lacking(chunks):
    """As lacking."""
    least = 1 if len(chunks) == 0 else last_of(chunks) + 1
    return least if least <= GREATEST_KEY else None


def last_of(chunks):
    """The last key that the chunks cover."""
    return chunks[-1][2][1]


def lowest_of(chunks):
    """The lower moment of the first chunk, which is none above another one's."""
    return chunks[0][1][0]


def greatest_of(chunks):
    """The greatest upper moment."""
    return max([letter[1][1] for letter in chunks])


def copy_told(chunks, told):
    """The steps, the schema and the state at the greatest upper moment of chunks that cover all keys.

    told has (moment, entry) of the moments above the lowest one, ascending; one that lacks changed nothing.
    """
    steps = chunks[0][3]
    schema = editions_of(steps)[-1]
    tables = {table: {} for table, _ in schema}
    lows = sorted([letter[1][0] for letter in chunks])
    reached = lows[0]
    lay_rows(tables, chunks, reached, reached)
    for moment, entry in told:
        lay_rows(tables, chunks, reached + 1, moment - 1)
        reached = moment - 1
        if entry[0] == "step":
            steps = (*steps, entry[1])
            behind = stepped(schema, entry[1])
            state = state_there(schema, entry[1], behind, state_laid(schema, tables))
            schema, tables = behind, {table: dict(rows) for table, rows in state}
        else:
            lay_changes(tables, [change for change in entry[1] if low_for(chunks, change[2]) < moment])
    lay_rows(tables, chunks, reached + 1, lows[-1])
    return steps, schema, state_laid(schema, tables)


def lay_rows(tables, chunks, low, high):
    """Lays the rows of the chunks whose lower moment lies between these two."""
    for letter in chunks:
        if low <= letter[1][0] <= high:
            for key, parts in letter[4]:
                for table, values in parts:
                    tables[table][key] = values


def lay_changes(tables, changes):
    """Does the changes, a drop only where a row lies: it may have been gone when it was to be read."""
    for change in changes:
        if change[0] == "put":
            tables[change[1]][change[2]] = change[3]
        else:
            tables[change[1]].pop(change[2], None)


def low_for(chunks, key):
    """The lower moment of the chunk that covers the key."""
    return [letter[1][0] for letter in chunks if letter[2][0] <= key <= letter[2][1]][0]


def state_laid(schema, tables):
    """The state that these rows make, of a dict of dicts of values by tables and keys."""
    return tuple([(table, sorted_rows(tables[table])) for table, _ in schema])


# And what is looked at: forms.


def want_chunks(value):
    """Raises BadChunks unless value is chunks of a copy."""
    if not isinstance(value, tuple) or not all([is_chunk(part) for part in value]):
        raise BadChunks(value)
    if not all([is_next(value[:at], letter) for at, letter in enumerate(value)]):
        raise BadChunks(value)


def is_chunk(value):
    """Whether value is a chunk's letter by its form."""
    if not isinstance(value, tuple) or len(value) != 5 or value[0] != "chunk":
        return False
    _, moments, keys, steps, rows = value
    if not is_pair(moments) or not all([is_moment(part) for part in moments]) or moments[0] > moments[1]:
        return False
    if not is_pair(keys) or not is_key(keys[0]) or not is_integer(keys[1]):
        return False
    if not keys[0] - 1 <= keys[1] <= GREATEST_KEY:
        return False
    if not isinstance(steps, tuple) or not all([is_step(step) for step in steps]):
        return False
    return are_chunk_rows(rows, keys[0], keys[1])


def are_chunk_rows(value, first, last):
    """Whether value tells what lay under keys from first to last."""
    if not isinstance(value, tuple) or not all([is_pair(row) for row in value]):
        return False
    if not all([is_key(key) and first <= key <= last and are_tables(parts) for key, parts in value]):
        return False
    return is_ascending([key for key, _ in value])


def are_tables(value):
    """Whether value is the rows of one key, with the names of their tables."""
    if not isinstance(value, tuple) or len(value) == 0 or not all([is_pair(part) for part in value]):
        return False
    if not all([is_name(table) and are_values(values) for table, values in value]):
        return False
    return is_ascending([table for table, _ in value])


def are_values(value):
    """Whether value is the values of a row, of whatever columns."""
    return is_short(value, MOST_PARTS) and all([is_value(part) for part in value])
