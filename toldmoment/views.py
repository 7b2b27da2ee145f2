"""Views: rows that are worked out from a state, and their lines (section 12)."""

from toldmoment.errors import BadView, NoTable
from toldmoment.forms import are_names, is_name, is_of_kind, is_value, want_schema
from toldmoment.maps import filled
from toldmoment.schemas import columns_in, names_of, place_in, value_of, word_of
from toldmoment.states import want_state

# How many parts a view has.
VIEWS = {"rows": 4, "pair": 4, "count": 3, "sum": 4}
SIGNS = ("<", "=", ">")
# Stands in a line for no names.
NO_NAMES = "-"
# What a view shows that does not fit the schema.
UNFIT = ("unfit",)


def check_view(schema, view):
    """Raises BadView unless view is one by this schema."""
    want_schema(schema)
    if not is_view(view) or not is_fit(schema, view):
        raise BadView(view)


def viewed(schema, state, view):
    """What the view tells of the state."""
    want_state(schema, state)
    check_view(schema, view)
    return view_told(schema, state, view)


def view_columns(schema, view):
    """The names of the columns that the view tells behind the key."""
    check_view(schema, view)
    if view[0] == "rows":
        return view[2]
    if view[0] == "pair":
        return names_of(columns_in(schema, view[1]) + columns_in(schema, view[3]))
    return (view[2], "count") if view[0] == "count" else (view[3], "sum")


def touches(schema, view, table):
    """Whether the view is told of this table."""
    check_view(schema, view)
    if table not in names_of(schema):
        raise NoTable(table)
    return table == view[1] or (view[0] == "pair" and table == view[3])


def view_text(view):
    """The line of a view."""
    if not is_view(view):
        raise BadView(view)
    if view[0] != "rows":
        return " ".join(view)
    words = [*view[:2], NO_NAMES if len(view[2]) == 0 else ",".join(view[2])]
    if view[3] is not None:
        words.extend(["if", *view[3][:2], word_of(view[3][2])])
    return " ".join(words)


def view_in(text):
    """The view of which text is the line, or None."""
    view = view_of(text.split(" ")) if isinstance(text, str) else None
    return view if is_view(view) else None


def view_of(words):
    """The parts of a view's line; whoever calls this looks at their form."""
    if words[0] != "rows" or len(words) < 3:
        return tuple(words)
    names = () if words[2] == NO_NAMES else tuple(words[2].split(","))
    if len(words) == 3:
        return ("rows", words[1], names, None)
    if len(words) != 7 or words[3] != "if":
        return None
    return ("rows", words[1], names, (words[4], words[5], value_of(words[6])))


def is_view(value):
    """Whether value has the form of a view, by whatever schema."""
    if not isinstance(value, tuple) or len(value) == 0 or not isinstance(value[0], str):
        return False
    if value[0] not in VIEWS or len(value) != VIEWS[value[0]]:
        return False
    if value[0] == "rows":
        return is_name(value[1]) and are_names(value[2]) and is_condition(value[3])
    return all([is_name(part) for part in value[1:]])


def is_condition(value):
    """Whether value has the form of a condition, or is None."""
    if value is None:
        return True
    if not isinstance(value, tuple) or len(value) != 3:
        return False
    if not is_name(value[0]) or value[1] not in SIGNS or not is_value(value[2]):
        return False
    return value[2] is not None or value[1] == "="


# From here on: what is told of a view, by its form, of a schema, and of states, which are not looked at.


def is_fit(schema, view):
    """Whether the view is one by this schema."""
    tables = {table: dict(columns) for table, columns in schema}
    if view[1] not in tables:
        return False
    columns = tables[view[1]]
    if view[0] == "rows":
        return all([name in columns for name in view[2]]) and lets_compare(columns, view[3])
    if view[0] == "pair":
        return columns.get(view[2]) == "int" and view[3] in tables
    if view[0] == "sum":
        return columns.get(view[2]) == "int" and view[3] in columns
    return view[2] in columns


def lets_compare(columns, condition):
    """Whether the condition is one over these columns, a dict of their kinds."""
    if condition is None:
        return True
    return condition[0] in columns and is_of_kind(condition[2], columns[condition[0]])


def shown_of(schema, state, view):
    """What a view, by its form, shows of the state: that it is unfit, where it is none by this schema."""
    return view_told(schema, state, view) if is_fit(schema, view) else UNFIT


def view_told(schema, state, view):
    """As viewed."""
    tables = {table: dict(rows) for table, rows in state}
    if not is_grouped(view):
        rows = [row_told(schema, tables, view, key) for key in sorted(tables[view[1]])]
        return tuple([row for row in rows if row is not None])
    groups = {}
    for values in tables[view[1]].values():
        add_share(groups, share_of(schema, view, values), 1)
    return groups_told(groups)


def is_grouped(view):
    """Whether the view adds up over rows."""
    return view[0] in ("count", "sum")


def row_told(schema, tables, view, key):
    """What a view that does not add up tells of the row of its first table under the key, None if it tells nothing.

    tables is a dict of dicts of values by tables and keys.
    """
    values = tables[view[1]].get(key)
    if values is None:
        return None
    columns = columns_in(schema, view[1])
    if view[0] == "pair":
        others = tables[view[3]].get(values[place_in(columns, view[2])])
        return (key, values, filled(columns_in(schema, view[3]), others))
    if not is_let_by(columns, values, view[3]):
        return None
    return (key, tuple([values[place_in(columns, name)] for name in view[2]]))


def is_let_by(columns, values, condition):
    """Whether the condition lets the row by."""
    if condition is None:
        return True
    column, sign, wanted = condition
    value = values[place_in(columns, column)]
    if sign == "=":
        return value == wanted
    if value is None:
        return False
    return value < wanted if sign == "<" else value > wanted


def share_of(schema, view, values):
    """Under which value a view that adds up tells a row, and what the row adds there."""
    columns = columns_in(schema, view[1])
    value = values[place_in(columns, view[2])]
    if view[0] == "count":
        return value, 1
    return values[place_in(columns, view[3])], 0 if value is None else value


def add_share(groups, share, many):
    """Adds a row's share so many times to groups, a dict of (rows, total) by values; no group without rows is left."""
    value, amount = share
    rows, total = groups.get(value, (0, 0))
    groups[value] = (rows + many, total + many * amount)
    if groups[value][0] == 0:
        del groups[value]


def groups_told(groups):
    """What a view that adds up tells, of its groups."""
    values = [None] if None in groups else []
    values.extend(sorted([value for value in groups if value is not None]))
    return tuple([(value, groups[value][1]) for value in values])
