"""Texts of values, changes, steps and entries, and the schema behind a step (section 4)."""

from toldmoment.errors import (
    BadChange, BadEntry, BadKind, BadStep, BadText, BadValue, Full, NoColumn, NoTable, There,
)
from toldmoment.forms import (
    MOST_PARTS, integer_in, is_change, is_entry, is_of_kind, is_step, is_value, want_schema,
)

# From this place on a step holds values, which stand in its text by words of their own.
FIRST_VALUES = {"add": 4, "cut": 3, "turn": 4}


def value_text(value):
    """The word of a value."""
    if not is_value(value):
        raise BadValue(value)
    return word_of(value)


def value_in(text):
    """The value of which text is the word."""
    value = value_of(text) if isinstance(text, str) else ()
    if not is_value(value):
        raise BadText(text)
    return value


def change_text(change):
    """The text of a change."""
    if not is_change(change):
        raise BadChange(change)
    words = [change[0], change[1], str(change[2])]
    if change[0] == "put":
        words.extend([word_of(value) for value in change[3]])
    return " ".join(words)


def change_in(text):
    """The change of which this is the text."""
    change = change_of(text) if isinstance(text, str) else None
    if not is_change(change):
        raise BadText(text)
    return change


def step_text(step):
    """The text of a step."""
    if not is_step(step):
        raise BadStep(step)
    if step[0] == "make":
        return " ".join(["make", step[1], *[word for column in step[2] for word in column]])
    if step[0] == "part":
        return " ".join(["part", step[1], step[2], step[4], *step[3]])
    at = FIRST_VALUES.get(step[0], len(step))
    return " ".join([*step[:at], *[word_of(value) for value in step[at:]]])


def step_in(text):
    """The step of which this is the text."""
    step = step_of(text) if isinstance(text, str) else None
    if not is_step(step):
        raise BadText(text)
    return step


def entry_text(entry):
    """The text of an entry."""
    if not is_entry(entry):
        raise BadEntry(entry)
    if entry[0] == "step":
        return "step " + step_text(entry[1])
    if len(entry[1]) == 0:
        return "deal"
    return "deal " + " ; ".join([change_text(change) for change in entry[1]])


def entry_in(text):
    """The entry of which this is the text."""
    entry = entry_of(text) if isinstance(text, str) else None
    if not is_entry(entry):
        raise BadText(text)
    return entry


def word_of(value):
    """The word in which a value stands in texts."""
    if value is None:
        return "none"
    return "'" + value if isinstance(value, str) else str(value)


# The next four only take a text apart: whoever calls them looks at the form of what they return.


def value_of(word):
    """The value of a word; a tuple, which is no value, if it tells none."""
    if word == "none":
        return None
    if word.startswith("'"):
        return word[1:]
    number = integer_in(word)
    return () if number is None else number


def change_of(text):
    """The parts of a change's text, or None."""
    words = text.split(" ")
    if len(words) < 3:
        return None
    head = (words[0], words[1], integer_in(words[2]))
    if words[0] == "put":
        return (*head, tuple([value_of(word) for word in words[3:]]))
    return (*head, *words[3:])


def step_of(text):
    """The parts of a step's text."""
    words = tuple(text.split(" "))
    if words[0] == "make":
        return (*words[:2], tuple([words[at:at + 2] for at in range(2, len(words), 2)]))
    if words[0] == "part" and len(words) >= 4:
        return (*words[:3], words[4:], words[3])
    at = FIRST_VALUES.get(words[0], len(words))
    return (*words[:at], *[value_of(word) for word in words[at:]])


def entry_of(text):
    """The parts of an entry's text, or None."""
    if text == "deal":
        return ("deal", ())
    if text.startswith("deal "):
        return ("deal", tuple([change_of(part) for part in text[5:].split(" ; ")]))
    if text.startswith("step "):
        return ("step", step_of(text[5:]))
    return None


def names_of(parts):
    """The names of a schema's tables, or of columns, in their sequence."""
    return tuple([part[0] for part in parts])


def columns_in(schema, table):
    """The columns of the schema's table; NoTable if it has none of this name."""
    for name, columns in schema:
        if name == table:
            return columns
    raise NoTable(table)


def place_in(columns, column):
    """Where the column of this name stands; NoColumn if there is none."""
    for at, part in enumerate(columns):
        if part[0] == column:
            return at
    raise NoColumn(column)


def want_free(name, taken):
    """Raises There if the name is one of those that are taken."""
    if name in taken:
        raise There(name)


def tables_behind(schema, gone, tables):
    """The schema with these tables instead of those that are gone.

    Full is looked at here alone: it stands last wherever it is told.
    """
    kept = [part for part in schema if part[0] not in gone]
    parts = [*kept, *tables]
    if len(parts) > MOST_PARTS or any([len(columns) > MOST_PARTS for _, columns in tables]):
        raise Full(MOST_PARTS)
    return tuple(sorted(parts, key=lambda part: part[0]))


def columns_behind(schema, table, columns):
    """The schema in which this table has these columns."""
    return tables_behind(schema, (table,), ((table, columns),))


def make_behind(schema, step):
    """The schema behind a make."""
    want_free(step[1], names_of(schema))
    return tables_behind(schema, (), (step[1:],))


def gone_behind(schema, step):
    """The schema behind a gone."""
    table = step[1]
    columns_in(schema, table)
    return tables_behind(schema, (table,), ())


def call_behind(schema, step):
    """The schema behind a call."""
    table, new = step[1:]
    columns = columns_in(schema, table)
    want_free(new, names_of(schema))
    return tables_behind(schema, (table,), ((new, columns),))


def add_behind(schema, step):
    """The schema behind an add."""
    table, column, kind = step[1:4]
    columns = columns_in(schema, table)
    want_free(column, names_of(columns))
    return columns_behind(schema, table, (*columns, (column, kind)))


def cut_behind(schema, step):
    """The schema behind a cut."""
    table, column, value = step[1:]
    columns = columns_in(schema, table)
    at = place_in(columns, column)
    if not is_of_kind(value, columns[at][1]):
        raise BadValue(value)
    return columns_behind(schema, table, columns[:at] + columns[at + 1:])


def name_behind(schema, step):
    """The schema behind a name."""
    table, column, new = step[1:]
    columns = columns_in(schema, table)
    at = place_in(columns, column)
    want_free(new, names_of(columns))
    named = ((new, columns[at][1]),)
    return columns_behind(schema, table, columns[:at] + named + columns[at + 1:])


def turn_behind(schema, step):
    """The schema behind a turn."""
    table, column, kind = step[1:4]
    columns = columns_in(schema, table)
    at = place_in(columns, column)
    if columns[at][1] == kind:
        raise BadKind(column)
    turned = ((column, kind),)
    return columns_behind(schema, table, columns[:at] + turned + columns[at + 1:])


def split_behind(schema, step):
    """The schema behind a split."""
    table, column, first, second = step[1:5]
    columns = columns_in(schema, table)
    at = place_in(columns, column)
    if columns[at][1] != "text":
        raise BadKind(column)
    others = names_of(columns[:at] + columns[at + 1:])
    want_free(first, others)
    want_free(second, others)
    both = ((first, "text"), (second, "text"))
    return columns_behind(schema, table, columns[:at] + both + columns[at + 1:])


def part_behind(schema, step):
    """The schema behind a part."""
    table, first, names, second = step[1:]
    columns = columns_in(schema, table)
    for name in names:
        place_in(columns, name)
    others = [name for name in names_of(schema) if name != table]
    want_free(first, others)
    want_free(second, others)
    among = tuple([column for column in columns if column[0] in names])
    left = tuple([column for column in columns if column[0] not in names])
    return tables_behind(schema, (table,), ((first, among), (second, left)))


def unite_behind(schema, step):
    """The schema behind a unite."""
    first, second, table = step[1:]
    columns = columns_in(schema, first)
    further = columns_in(schema, second)
    others = [name for name in names_of(schema) if name not in (first, second)]
    want_free(table, others)
    for name in names_of(further):
        want_free(name, names_of(columns))
    return tables_behind(schema, (first, second), ((table, columns + further),))


STEPS_BEHIND = {
    "make": make_behind,
    "gone": gone_behind,
    "call": call_behind,
    "add": add_behind,
    "cut": cut_behind,
    "name": name_behind,
    "turn": turn_behind,
    "split": split_behind,
    "part": part_behind,
    "unite": unite_behind,
}


def stepped(schema, step):
    """The schema behind a step."""
    want_schema(schema)
    if not is_step(step):
        raise BadStep(step)
    behind = STEPS_BEHIND[step[0]]
    return behind(schema, step)
