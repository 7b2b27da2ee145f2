"""What is what: the forms of section 2, each asked of any value at all."""

from toldmoment.errors import BadKey, BadSchema

MOST_PARTS = 6
MOST_LETTERS = 6
MOST_CHANGES = 12
MOST_SIGNS = 12
MOST_FIGURES = 11
GREATEST_KEY = 999999
GREATEST_VALUE = 99999999999

# Written as the steps' tuples stand, behind their first word.
STEP_FORMS = {
    "make": ("name", "columns"),
    "gone": ("name",),
    "call": ("name", "name"),
    "add": ("name", "name", "kind", "value"),
    "cut": ("name", "name", "value"),
    "name": ("name", "name", "name"),
    "turn": ("name", "name", "kind", "value", "value"),
    "split": ("name", "name", "name", "name", "sign"),
    "part": ("name", "name", "names", "name"),
    "unite": ("name", "name", "name"),
}


def is_integer(value):
    """Python takes True for an int; the document does not."""
    return isinstance(value, int) and not isinstance(value, bool)


def is_short(value, most):
    """Whether value is a tuple of at most so many parts."""
    return isinstance(value, tuple) and len(value) <= most


def is_pair(value):
    """Whether value is a tuple of two parts."""
    return isinstance(value, tuple) and len(value) == 2


def is_ascending(parts):
    """Whether parts that compare are sorted, without duplicates."""
    return all([low < high for low, high in zip(parts, parts[1:])])


def are_alike(one, other):
    """Whether any two values are the same one; Python takes True for 1, also within tuples and lists."""
    if not isinstance(one, (tuple, list)) or not isinstance(other, (tuple, list)):
        return isinstance(one, bool) == isinstance(other, bool) and one == other
    if isinstance(one, tuple) != isinstance(other, tuple) or len(one) != len(other):
        return False
    return all([are_alike(part, its) for part, its in zip(one, other)])


def are_unlike(values):
    """Whether no two of any values are alike."""
    keys = [value for value in values if is_key(value)]
    others = [value for value in values if not is_key(value)]
    if len(set(keys)) < len(keys):
        return False
    return not any([are_alike(one, other) for at, one in enumerate(others) for other in others[:at]])


def is_name(value):
    """Whether value is a name: 1 to 6 letters a to z."""
    if not isinstance(value, str) or not 1 <= len(value) <= MOST_LETTERS:
        return False
    return all(["a" <= sign <= "z" for sign in value])


def are_names(value):
    """Whether value is a tuple of at most six unlike names."""
    if not is_short(value, MOST_PARTS) or not all([is_name(part) for part in value]):
        return False
    return len(set(value)) == len(value)


def is_key(value):
    """Whether value is a key."""
    return is_integer(value) and 1 <= value <= GREATEST_KEY


def is_kind(value):
    """Whether value is a kind."""
    return isinstance(value, str) and value in ("int", "text")


def is_signs(value, most):
    """Whether value is a string of at most so many signs from ! to ~."""
    if not isinstance(value, str) or len(value) > most:
        return False
    return all(["!" <= sign <= "~" for sign in value])


def is_sign(value):
    """Whether value is one sign from ! to ~."""
    return is_signs(value, 1) and len(value) == 1


def is_of_kind(value, kind):
    """Whether value is a value of this kind; None is of both."""
    if value is None:
        return True
    if kind == "int":
        return is_integer(value) and -GREATEST_VALUE <= value <= GREATEST_VALUE
    return is_signs(value, MOST_SIGNS)


def is_value(value):
    """Whether value is a value, of whichever kind."""
    return is_of_kind(value, "int") or is_of_kind(value, "text")


def other_kind(kind):
    """The kind that a column of this kind can be turned to."""
    return "text" if kind == "int" else "int"


def is_columns(value):
    """Whether value is columns."""
    if not is_short(value, MOST_PARTS) or not all([is_pair(part) for part in value]):
        return False
    names = tuple([part[0] for part in value])
    return are_names(names) and all([is_kind(part[1]) for part in value])


def are_values_of(columns, value):
    """Whether value is values of these columns: as many, each of its column's kind."""
    if not isinstance(value, tuple) or len(value) != len(columns):
        return False
    return all([is_of_kind(part, column[1]) for column, part in zip(columns, value)])


def is_schema(value):
    """Whether value is a schema."""
    if not is_short(value, MOST_PARTS) or not all([is_pair(part) for part in value]):
        return False
    tables = tuple([part[0] for part in value])
    if not are_names(tables) or not is_ascending(tables):
        return False
    return all([is_columns(part[1]) for part in value])


def are_rows(columns, value):
    """Whether value is the rows of a table with these columns."""
    if not isinstance(value, tuple) or not all([is_pair(row) for row in value]):
        return False
    if not all([is_key(row[0]) and are_values_of(columns, row[1]) for row in value]):
        return False
    return is_ascending([row[0] for row in value])


def is_state(schema, value):
    """Whether value is a state of this schema."""
    if not isinstance(value, tuple) or len(value) != len(schema):
        return False
    if not all([is_pair(part) for part in value]):
        return False
    return all([part[0] == table and are_rows(columns, part[1])
                for (table, columns), part in zip(schema, value)])


def is_key_rows(schema, value):
    """Whether value tells what one key has in all tables of this schema."""
    if not isinstance(value, tuple) or len(value) != len(schema):
        return False
    if not all([is_pair(part) for part in value]):
        return False
    return all([part[0] == table and (part[1] is None or are_values_of(columns, part[1]))
                for (table, columns), part in zip(schema, value)])


def is_change(value):
    """Whether value is a change."""
    if not isinstance(value, tuple) or len(value) not in (3, 4):
        return False
    if not is_name(value[1]) or not is_key(value[2]):
        return False
    if len(value) == 3:
        return value[0] == "drop"
    if value[0] != "put" or not is_short(value[3], MOST_PARTS):
        return False
    return all([is_value(part) for part in value[3]])


def are_changes(value):
    """Whether value is a tuple of at most twelve changes."""
    return is_short(value, MOST_CHANGES) and all([is_change(part) for part in value])


# The checks by the words of STEP_FORMS.
PART_CHECKS = {
    "name": is_name,
    "names": are_names,
    "kind": is_kind,
    "value": is_value,
    "sign": is_sign,
    "columns": is_columns,
}


def has_form(value, form):
    """Whether value is what this word of STEP_FORMS tells."""
    check = PART_CHECKS[form]
    return check(value)


def parts_agree(step):
    """What a step's form asks of its parts beside one another."""
    word = step[0]
    if word == "add":
        return is_of_kind(step[4], step[3])
    if word == "turn":
        return is_of_kind(step[4], step[3]) and is_of_kind(step[5], other_kind(step[3]))
    if word == "split":
        return step[3] != step[4]
    if word == "part":
        return step[2] != step[4]
    if word == "unite":
        return step[1] != step[2]
    return True


def is_step(value):
    """Whether value is a step by its form."""
    if not isinstance(value, tuple) or len(value) == 0:
        return False
    if not isinstance(value[0], str) or value[0] not in STEP_FORMS:
        return False
    forms = STEP_FORMS[value[0]]
    if len(value) != len(forms) + 1:
        return False
    if not all([has_form(part, form) for part, form in zip(value[1:], forms)]):
        return False
    return parts_agree(value)


def is_entry(value):
    """Whether value is an entry by its form."""
    if not is_pair(value):
        return False
    if value[0] == "deal":
        return are_changes(value[1])
    return value[0] == "step" and is_step(value[1])


def number_in(word):
    """The integer that Python writes as this string, or None."""
    figures = word[1:] if word.startswith("-") else word
    if len(figures) == 0 or not all(["0" <= sign <= "9" for sign in figures]):
        return None
    number = int(word)
    return number if str(number) == word else None


def integer_in(word):
    """The integer of at most 11 figures that Python writes as this string, or None."""
    figures = word[1:] if word.startswith("-") else word
    return number_in(word) if len(figures) <= MOST_FIGURES else None


def want_schema(value):
    """Raises BadSchema unless value is a schema."""
    if not is_schema(value):
        raise BadSchema(value)


def want_key(value):
    """Raises BadKey unless value is a key."""
    if not is_key(value):
        raise BadKey(value)
