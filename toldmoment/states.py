"""States of a schema, the changes that are dealt to them, and what lies under one key (section 5)."""

from toldmoment.errors import BadChanges, BadRows, BadState, BadValues, NoRow, NoTable
from toldmoment.forms import are_changes, are_values_of, is_key_rows, is_state, want_key, want_schema


def empty_state(schema):
    """The schema's state without rows."""
    want_schema(schema)
    return tuple([(table, ()) for table, _ in schema])


def fits(schema, value):
    """Whether any value is a state of this schema."""
    want_schema(schema)
    return is_state(schema, value)


def dealt(schema, state, changes):
    """The state behind all changes, done one behind another."""
    want_state(schema, state)
    return state_dealt(schema, state, changes)


def state_dealt(schema, state, changes):
    """As dealt, of a state that is known to be one of the schema: who goes on from state to state looks once."""
    if not are_changes(changes):
        raise BadChanges(changes)
    columns = dict(schema)
    tables = {table: dict(rows) for table, rows in state}
    for change in changes:
        if change[1] not in tables:
            raise NoTable(change[1])
        if change[0] == "put":
            put_row(columns[change[1]], tables[change[1]], change)
        else:
            drop_row(tables[change[1]], change)
    return tuple([(table, sorted_rows(tables[table])) for table, _ in schema])


def keys_of(state):
    """All keys under which some row lies."""
    return tuple(sorted({row[0] for _, rows in state for row in rows}))


def row_in(state, table, key):
    """The values of the row that lies under the key in this table, or None."""
    found = [rows for name, rows in state if name == table]
    if len(found) == 0:
        raise NoTable(table)
    want_key(key)
    return dict(found[0]).get(key)


def key_rows(state, key):
    """What lies under one key, in all tables."""
    want_key(key)
    return tuple([(table, dict(rows).get(key)) for table, rows in state])


def with_key_rows(schema, state, key, rows):
    """The state in which just these rows lie under the key."""
    want_state(schema, state)
    want_key(key)
    if not is_key_rows(schema, rows):
        raise BadRows(rows)
    return tuple([(table, rows_with(old, key, values)) for (table, old), (_, values) in zip(state, rows)])


def want_state(schema, value):
    """Raises BadSchema unless schema is one, BadState unless value is a state of it."""
    if not fits(schema, value):
        raise BadState(value)


def put_row(columns, rows, change):
    """Lays the change's row among these, whatever lay there."""
    if not are_values_of(columns, change[3]):
        raise BadValues(change[3])
    rows[change[2]] = change[3]


def drop_row(rows, change):
    """Takes the change's row away from these."""
    if change[2] not in rows:
        raise NoRow((change[1], change[2]))
    del rows[change[2]]


def rows_with(rows, key, values):
    """A table's rows with these values under the key, or with no row there for None."""
    new = {place: old for place, old in rows if place != key}
    if values is not None:
        new[key] = values
    return sorted_rows(new)


def sorted_rows(rows):
    """A table's rows as a state tells them, of a dict of values by their keys."""
    return tuple(sorted(rows.items(), key=lambda row: row[0]))
