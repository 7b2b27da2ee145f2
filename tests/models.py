"""What the program is held against: the same things told another way, and histories made by chance.

A model of a state is {key: {table: {column: value}}}; tables that have no row of a key, and keys without rows, lack.
"""

from samples import any_columns, any_value
from toldmoment.errors import MomentError
from toldmoment.forms import is_step
from toldmoment.schemas import stepped


def model_of(schema, state):
    columns = {table: [name for name, _ in parts] for table, parts in schema}
    model = {}
    for table, rows in state:
        for key, values in rows:
            model.setdefault(key, {})[table] = dict(zip(columns[table], values))
    return model


def state_of(schema, model):
    return tuple((table, tuple(
        (key, tuple(model[key][table][name] for name, _ in columns)) for key in sorted(model) if table in model[key]
    )) for table, columns in schema)


def rows_of(schema, model, key):
    tables = model.get(key, {})
    return tuple((table, tuple(tables[table][name] for name, _ in columns) if table in tables else None)
                 for table, columns in schema)


def figures(text):
    """The integer that Python writes as this text, tried on the text itself; None if there is none."""
    try:
        number = int(text)
    except ValueError:
        return None
    return number if str(number) == text and len(text.lstrip("-")) <= 11 else None


def turned(value, kind, otherwise):
    if value is None:
        return None
    if kind == "text":
        return str(value)
    return otherwise if figures(value) is None else figures(value)


def tables_there(schema, step, tables):
    """What a key has behind the step."""
    word, table, *more = step
    tables = {name: dict(row) for name, row in tables.items()}
    row = tables.pop(table, None)
    columns = {name: [column for column, _ in parts] for name, parts in schema}
    if word == "unite":
        other = tables.pop(more[0], None)
        if row is not None or other is not None:
            tables[more[1]] = {**dict.fromkeys(columns[table] + columns[more[0]]), **(row or {}), **(other or {})}
        return tables
    if row is None or word == "gone":
        return tables
    if word == "call":
        table = more[0]
    elif word == "add":
        row[more[0]] = more[2]
    elif word == "cut":
        del row[more[0]]
    elif word == "name":
        row[more[1]] = row.pop(more[0])
    elif word == "turn":
        row[more[0]] = turned(row[more[0]], more[1], more[2])
    elif word == "split":
        text = row.pop(more[0])
        at = -1 if text is None else text.find(more[3])
        row[more[1]] = text if at < 0 else text[:at]
        row[more[2]] = None if at < 0 else text[at + 1:]
    elif word == "part":
        tables[more[0]] = {name: value for name, value in row.items() if name in more[1]}
        row, table = {name: value for name, value in row.items() if name not in more[1]}, more[2]
    tables[table] = row
    return tables


def tables_back(schema, step, tables):
    """What a key has ahead of the step, schema being the one ahead of it."""
    word, table, *more = step
    tables = {name: dict(row) for name, row in tables.items()}
    columns = {name: [column for column, _ in parts] for name, parts in schema}
    if word == "part":
        first, second = tables.pop(more[0], None), tables.pop(more[2], None)
        if first is not None or second is not None:
            tables[table] = {**dict.fromkeys(columns[table]), **(first or {}), **(second or {})}
        return tables
    if word == "unite":
        row = tables.pop(more[1], None)
        if row is not None:
            tables[table] = {name: row[name] for name in columns[table]}
            tables[more[0]] = {name: row[name] for name in columns[more[0]]}
        return tables
    row = tables.pop(more[0] if word == "call" else table, None)
    if row is None or word == "make":
        return tables
    if word == "add":
        del row[more[0]]
    elif word == "cut":
        row[more[0]] = more[1]
    elif word == "name":
        row[more[0]] = row.pop(more[1])
    elif word == "turn":
        row[more[0]] = turned(row[more[0]], {"int": "text", "text": "int"}[more[1]], more[3])
    elif word == "split":
        first, second = row.pop(more[1]), row.pop(more[2])
        row[more[0]] = first if second is None else f"{first or ''}{more[3]}{second}"[:12]
    tables[table] = row
    return tables


def model_there(schema, step, model):
    led = {key: tables_there(schema, step, tables) for key, tables in model.items()}
    return {key: tables for key, tables in led.items() if tables}


def model_back(schema, step, model):
    led = {key: tables_back(schema, step, tables) for key, tables in model.items()}
    return {key: tables for key, tables in led.items() if tables}


def model_dealt(schema, model, changes):
    model = {key: dict(tables) for key, tables in model.items()}
    columns = {table: [name for name, _ in parts] for table, parts in schema}
    for word, table, key, *values in changes:
        if word == "put":
            model.setdefault(key, {})[table] = dict(zip(columns[table], values[0]))
        else:
            del model[key][table]
            if not model[key]:
                del model[key]
    return model


def value_sequence(values):
    """Values in the sequence in which views tell them: None ahead of all others."""
    return sorted(values, key=lambda value: (value is not None, 0 if value is None else value))


def lets_by(row, condition):
    if condition is None:
        return True
    column, sign, wanted = condition
    value = row[column]
    if value is None or wanted is None:
        return sign == "=" and value is wanted
    return {"<": value < wanted, "=": value == wanted, ">": value > wanted}[sign]


def viewed_plainly(schema, state, view):
    """What a view tells of a state, worked out on the model."""
    model, kinds = model_of(schema, state), {table: dict(columns) for table, columns in schema}
    word, table, *more = view
    rows = {key: model[key][table] for key in sorted(model) if table in model[key]}
    if word == "rows":
        return tuple((key, tuple(row[name] for name in more[0])) for key, row in rows.items() if lets_by(row, more[1]))
    if word == "pair":
        lack = dict.fromkeys(kinds[more[1]])
        return tuple((key, tuple(row.values()), tuple(model.get(row[more[0]], {}).get(more[1], lack).values()))
                     for key, row in rows.items())
    by = more[0] if word == "count" else more[1]
    told = []
    for value in value_sequence({row[by] for row in rows.values()}):
        those = [row for row in rows.values() if row[by] == value]
        told.append((value, len(those) if word == "count" else sum(row[more[0]] or 0 for row in those)))
    return tuple(told)


def is_plainly_fit(schema, view):
    """Whether a view is one by this schema, as the document's table tells it."""
    kinds = {table: dict(columns) for table, columns in schema}
    word, table, *more = view
    if table not in kinds:
        return False
    columns = kinds[table]
    if word == "rows":
        if not set(more[0]) <= set(columns):
            return False
        if more[1] is None:
            return True
        column, _, value = more[1]
        return column in columns and (value is None or columns[column] == {int: "int", str: "text"}[type(value)])
    if word == "pair":
        return columns.get(more[0]) == "int" and more[1] in kinds
    if word == "sum":
        return columns.get(more[0]) == "int" and more[1] in columns
    return more[0] in columns


def shown_plainly(schema, state, views):
    """What views show, those that are none by this schema among them."""
    return tuple(viewed_plainly(schema, state, view) if is_plainly_fit(schema, view) else ("unfit",) for view in views)


class Story:
    """A history, with what is to be told at each of its moments: schemas, models and editions."""

    def __init__(self):
        self.entries, self.schemas, self.models, self.editions = (), [()], [{}], [0]

    @property
    def moment(self):
        return len(self.entries)

    @property
    def schema(self):
        return self.schemas[-1]

    @property
    def steps(self):
        return tuple(told for word, told in self.entries if word == "step")

    def edition_schemas(self):
        return tuple([()] + [self.schemas[at] for at, (word, _) in enumerate(self.entries, 1) if word == "step"])

    def tell(self, entry):
        word, told = entry
        if word == "step":
            self.models.append(model_there(self.schema, told, self.models[-1]))
            self.schemas.append(stepped(self.schema, told))
        else:
            self.models.append(model_dealt(self.schema, self.models[-1], told))
            self.schemas.append(self.schema)
        self.entries = (*self.entries, entry)
        self.editions.append(self.editions[-1] + (word == "step"))

    def state(self, moment):
        return state_of(self.schemas[moment], self.models[moment])

    def seen(self, moment, edition):
        model, editions = self.models[moment], self.edition_schemas()
        for at in range(self.editions[moment], edition, -1):
            model = model_back(editions[at - 1], self.steps[at - 1], model)
        return editions[edition], state_of(editions[edition], model)


def any_deal(chance, story, keys=(1, 2, 3, 4, 5, 999999), most=4):
    """A deal that can stand next, perhaps without changes."""
    schema, model, changes = story.schema, story.models[-1], []
    for _ in range(chance.randint(0, most) if schema else 0):
        table, columns = chance.choice(schema)
        key = chance.choice(keys)
        if chance.random() < 0.4 and table in model.get(key, {}):
            change = ("drop", table, key)
        else:
            change = ("put", table, key, tuple(any_value(chance, kind) for _, kind in columns))
        changes.append(change)
        model = model_dealt(schema, model, (change,))
    return ("deal", tuple(changes))


def aimed_step(chance, schema, word):
    """A step of this kind at tables and columns of the schema, if it has any; it often can stand."""
    table, columns = chance.choice(schema or (("a", ()),))
    other = chance.choice([name for name in (*dict(schema), "g", "h") if name != table])
    new, newer = chance.sample("abcdefg", 2)
    column, kind = chance.choice(columns or (("x", "int"),))
    further, furthest = chance.sample("uvwxyz", 2)
    to, elder = ("text", "int") if kind == "int" else ("int", "text")
    some = tuple(chance.sample([name for name, _ in columns], chance.randint(0, len(columns))))
    return {
        "make": ("make", new, any_columns(chance, 4)),
        "gone": ("gone", table),
        "call": ("call", table, new),
        "add": ("add", table, further, kind, any_value(chance, kind)),
        "cut": ("cut", table, column, any_value(chance, kind)),
        "name": ("name", table, column, further),
        "turn": ("turn", table, column, to, any_value(chance, to), any_value(chance, elder)),
        "split": ("split", table, column, chance.choice((column, further)), furthest, chance.choice("!-;'~09")),
        "part": ("part", table, chance.choice((table, new)), some, newer),
        "unite": ("unite", table, other, chance.choice((table, other, new))),
    }[word]


WORDS = ("make", "gone", "call", "add", "cut", "name", "turn", "split", "part", "unite")


def can_stand(schema, step):
    try:
        stepped(schema, step)
    except MomentError:
        return False
    return True


def any_next_step(chance, schema, words=WORDS):
    """A step of any kind that can stand next."""
    while True:
        word = chance.choice(words)
        for _ in range(20):
            step = aimed_step(chance, schema, word)
            if is_step(step) and can_stand(schema, step):
                return step


def any_story(chance, many, keys=(1, 2, 3, 4, 5, 999999), steps=0.35):
    """A history of so many entries."""
    story = Story()
    for _ in range(many):
        if not story.schema or chance.random() < steps:
            story.tell(("step", any_next_step(chance, story.schema)))
        else:
            story.tell(any_deal(chance, story, keys))
    return story
