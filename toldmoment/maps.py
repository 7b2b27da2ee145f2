"""Maps of states, there and back, key by key (section 6)."""

from toldmoment.errors import BadRows, BadState, BadStep
from toldmoment.forms import MOST_SIGNS, integer_in, is_key_rows, is_state, is_step, other_kind
from toldmoment.schemas import columns_in, names_of, place_in, stepped

# What a turn undoes depends on the kind that it turns to.
UNDOES = {
    "make": "there",
    "gone": "back",
    "call": "both",
    "add": "there",
    "cut": "back",
    "name": "both",
    "split": "there",
    "part": "there",
    "unite": "back",
}


def forward(schema, step, state):
    """The state behind the step."""
    behind = stepped(schema, step)
    if not is_state(schema, state):
        raise BadState(state)
    return state_there(schema, step, behind, state)


def back(schema, step, state):
    """The state ahead of the step, whose schema is the one handed in."""
    behind = stepped(schema, step)
    if not is_state(behind, state):
        raise BadState(state)
    return state_back(schema, step, state)


def rows_forward(schema, step, rows):
    """What one key has behind the step."""
    behind = stepped(schema, step)
    if not is_key_rows(schema, rows):
        raise BadRows(rows)
    return rows_of(behind, key_there(schema, step, dict(rows)))


def rows_back(schema, step, rows):
    """What one key has ahead of the step, whose schema is the one handed in."""
    behind = stepped(schema, step)
    if not is_key_rows(behind, rows):
        raise BadRows(rows)
    return rows_of(schema, key_back(schema, step, dict(rows)))


def undoes(step):
    """Which way of the step undoes the other one."""
    if not is_step(step):
        raise BadStep(step)
    if step[0] == "turn":
        return ("there",) if step[3] == "text" else ("back",)
    return (UNDOES[step[0]],)


# The next two are for who goes on from state to state: they do not look at what they are handed.


def state_there(schema, step, behind, state):
    """The state by the schema behind the step, of one by the schema ahead of it."""
    return state_of(behind, {key: key_there(schema, step, rows) for key, rows in by_keys(state).items()})


def state_back(schema, step, state):
    """The state by the schema ahead of the step, of one by the schema behind it."""
    return state_of(schema, {key: key_back(schema, step, rows) for key, rows in by_keys(state).items()})


def by_keys(state):
    """What lies under each key: a dict of dicts of values, or None, by tables."""
    found = {}
    for table, rows in state:
        for key, values in rows:
            if key not in found:
                found[key] = {name: None for name, _ in state}
            found[key][table] = values
    return found


def state_of(schema, found):
    """The state of the schema in which this lies under each key, told as by_keys tells it."""
    keys = sorted(found)
    return tuple([
        (table, tuple([(key, found[key][table]) for key in keys if found[key][table] is not None]))
        for table, _ in schema
    ])


def rows_of(schema, rows):
    """What a key has, as it is told, of a dict by tables."""
    return tuple([(table, rows[table]) for table, _ in schema])


def key_there(schema, step, rows):
    """What a key has behind the step, of what it has ahead of it; both are dicts by tables."""
    led = dict(rows)
    lead = THERE[step[0]]
    lead(schema, step, led)
    return led


def key_back(schema, step, rows):
    """What a key has ahead of the step, of what it has behind it; both are dicts by tables."""
    led = dict(rows)
    lead = BACK[step[0]]
    lead(schema, step, led)
    return led


# From here on: what each step does with the rows of a key, a dict that it changes; schema is the one ahead of the step.


def table_comes(schema, step, rows):
    """A table of which the key has no row: a make there, a gone back."""
    rows[step[1]] = None


def table_goes(schema, step, rows):
    """The table is gone with its row: a gone there, a make back."""
    del rows[step[1]]


def call_there(schema, step, rows):
    """The table has its new name."""
    rows[step[2]] = rows.pop(step[1])


def call_back(schema, step, rows):
    """The table has its old name."""
    rows[step[1]] = rows.pop(step[2])


def part_there(schema, step, rows):
    """The row becomes two."""
    table, first, names, second = step[1:]
    columns = columns_in(schema, table)
    values = rows.pop(table)
    rows[first] = rows[second] = None
    if values is not None:
        rows[first] = tuple([value for (name, _), value in zip(columns, values) if name in names])
        rows[second] = tuple([value for (name, _), value in zip(columns, values) if name not in names])


def part_back(schema, step, rows):
    """Both rows become one, in the sequence in which the columns stood."""
    table, first, names, second = step[1:]
    columns = columns_in(schema, table)
    among = tuple([column for column in columns if column[0] in names])
    left = tuple([column for column in columns if column[0] not in names])
    ones, others = rows.pop(first), rows.pop(second)
    rows[table] = None
    if ones is not None or others is not None:
        found = dict(zip(names_of(among + left), (*filled(among, ones), *filled(left, others))))
        rows[table] = tuple([found[name] for name in names_of(columns)])


def unite_there(schema, step, rows):
    """Both rows become one; the columns of the one that lacks are None."""
    first, second, table = step[1:]
    ones, others = rows.pop(first), rows.pop(second)
    rows[table] = None
    if ones is not None or others is not None:
        rows[table] = (*filled(columns_in(schema, first), ones), *filled(columns_in(schema, second), others))


def unite_back(schema, step, rows):
    """The row becomes two."""
    first, second, table = step[1:]
    many = len(columns_in(schema, first))
    values = rows.pop(table)
    rows[first] = None if values is None else values[:many]
    rows[second] = None if values is None else values[many:]


def filled(columns, values):
    """The values of a row, None for each column of one that lacks."""
    return (None,) * len(columns) if values is None else values


def values_there(schema, step, rows):
    """The row of the step's table, if there is one, behind a step that is about one column."""
    values = rows[step[1]]
    if values is not None:
        lead = VALUES_THERE[step[0]]
        rows[step[1]] = lead(step, values, place_of(schema, step))


def values_back(schema, step, rows):
    """The row of the step's table, if there is one, ahead of a step that is about one column."""
    values = rows[step[1]]
    if values is not None:
        lead = VALUES_BACK[step[0]]
        rows[step[1]] = lead(step, values, place_of(schema, step))


def place_of(schema, step):
    """Where the step's column stands; of one that the step adds, where it comes to stand."""
    columns = columns_in(schema, step[1])
    return len(columns) if step[0] == "add" else place_in(columns, step[2])


# And what the steps that are about one column, which stands at this place, do with the values of a row.


def add_there(step, values, at):
    """The new value stands at the place."""
    return (*values[:at], step[4], *values[at:])


def cut_back(step, values, at):
    """The value for those who look back stands at its old place."""
    return (*values[:at], step[3], *values[at:])


def value_goes(step, values, at):
    """The value at the place is gone: a cut there, an add back."""
    return values[:at] + values[at + 1:]


def value_stays(step, values, at):
    """Only the column's name is another one."""
    return values


def turn_there(step, values, at):
    """The value is turned, or is the step's value if it can't be."""
    return (*values[:at], turned(values[at], step[3], step[4]), *values[at + 1:])


def turn_back(step, values, at):
    """The value is turned back, or is the elder one if it can't be."""
    return (*values[:at], turned(values[at], other_kind(step[3]), step[5]), *values[at + 1:])


def turned(value, kind, otherwise):
    """The value as one of this kind: otherwise, where none tells it."""
    if value is None:
        return None
    if kind == "text":
        return str(value)
    number = integer_in(value)
    return otherwise if number is None else number


def split_there(step, values, at):
    """The value becomes what stands ahead of the first sign, and what stands behind it."""
    return (*values[:at], *apart(values[at], step[5]), *values[at + 1:])


def split_back(step, values, at):
    """Both values become one."""
    return (*values[:at], joined_by(step[5], values[at], values[at + 1]), *values[at + 2:])


def apart(text, sign):
    """Both parts of a text; the second one is None if the sign is not in it."""
    if text is None:
        return (None, None)
    ahead, found, behind = text.partition(sign)
    return (ahead, behind if found == sign else None)


def joined_by(sign, ahead, behind):
    """The text that both parts tell."""
    if behind is None:
        return ahead
    whole = ("" if ahead is None else ahead) + sign + behind
    return whole[:MOST_SIGNS]


VALUES_THERE = {
    "add": add_there,
    "cut": value_goes,
    "name": value_stays,
    "turn": turn_there,
    "split": split_there,
}

VALUES_BACK = {
    "add": value_goes,
    "cut": cut_back,
    "name": value_stays,
    "turn": turn_back,
    "split": split_back,
}

THERE = {
    "make": table_comes,
    "gone": table_goes,
    "call": call_there,
    "add": values_there,
    "cut": values_there,
    "name": values_there,
    "turn": values_there,
    "split": values_there,
    "part": part_there,
    "unite": unite_there,
}

BACK = {
    "make": table_goes,
    "gone": table_comes,
    "call": call_back,
    "add": values_back,
    "cut": values_back,
    "name": values_back,
    "turn": values_back,
    "split": values_back,
    "part": part_back,
    "unite": unite_back,
}
