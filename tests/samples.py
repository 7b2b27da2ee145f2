"""What several tests share: values of all kinds, steps of every kind, and histories made by chance."""

import random
import unittest

from toldmoment.errors import MomentError


def nested(value, depth):
    for _ in range(depth):
        value = (value,)
    return value


ANYTHING = (
    None, True, False, 0, 1, -1, 12, 10 ** 11, "", "a", "none", "a b", "put a 1", "'", [], [1], ["put", "a", 1],
    {}, {"a": 1}, object(), MomentError("x"), (), (1,), ("a",), ((),), ("put",), ("deal",), ("step",),
    ("put", "a", 1), ["deal", ()], nested("a", 30), nested([], 30), ([], {}, None, True),
)

# One step of every kind, with its text.
STEP_TEXTS = (
    (("make", "a", ()), "make a"),
    (("make", "a", (("x", "int"),)), "make a x int"),
    (("make", "a", (("x", "int"), ("y", "text"))), "make a x int y text"),
    (("gone", "a"), "gone a"),
    (("call", "a", "b"), "call a b"),
    (("call", "a", "a"), "call a a"),
    (("add", "a", "x", "int", None), "add a x int none"),
    (("add", "a", "x", "int", -5), "add a x int -5"),
    (("add", "a", "x", "text", "none"), "add a x text 'none"),
    (("add", "a", "x", "text", ""), "add a x text '"),
    (("cut", "a", "x", None), "cut a x none"),
    (("cut", "a", "x", 7), "cut a x 7"),
    (("cut", "a", "x", "7"), "cut a x '7"),
    (("name", "a", "x", "y"), "name a x y"),
    (("turn", "a", "x", "int", 0, "'"), "turn a x int 0 ''"),
    (("turn", "a", "x", "text", "u", -1), "turn a x text 'u -1"),
    (("turn", "a", "x", "text", None, None), "turn a x text none none"),
    (("split", "a", "x", "y", "z", "-"), "split a x y z -"),
    (("split", "a", "x", "x", "z", "'"), "split a x x z '"),
    (("split", "a", "x", "y", "x", ";"), "split a x y x ;"),
    (("split", "a", "x", "y", "z", "!"), "split a x y z !"),
    (("split", "a", "x", "y", "z", "~"), "split a x y z ~"),
    (("part", "a", "b", (), "c"), "part a b c"),
    (("part", "a", "b", ("x",), "a"), "part a b a x"),
    (("part", "a", "b", ("y", "x"), "c"), "part a b c y x"),
    (("part", "a", "b", ("u", "v", "w", "x", "y", "z"), "c"), "part a b c u v w x y z"),
    (("unite", "a", "b", "c"), "unite a b c"),
    (("unite", "a", "b", "a"), "unite a b a"),
)

# What comes near a step, and is none by its form.
NO_STEPS = (
    (), ("make",), ("make", "a"), ("make", "a", (), ()), ("make", "a", []), ("make", "a", [("x", "int")]),
    ("make", "a", (("x", "int"), ("x", "text"))), ("make", "a", (("x", "bool"),)), ("make", "a", (("x",),)),
    ("make", "a", (["x", "int"],)), ("make", "a", (("x", "int", 0),)), ("make", "A", ()), ("make", "", ()),
    ("make", "a", tuple((name, "int") for name in "tuvwxyz")), ("make", 1, ()), ("make", "a", "x"),
    ("gone",), ("gone", "a", "b"), ("gone", "abcdefg"), ("gone", ("a",)), ("gone", None), ["gone", "a"], "gone a",
    ("call", "a"), ("call", "a", "b", "c"), ("call", "a", "B"), ("call", "a b", "c"),
    ("add", "a", "x", "int"), ("add", "a", "x", "int", 1, 2), ("add", "a", "x", "int", "1"),
    ("add", "a", "x", "text", 1), ("add", "a", "x", "int", True), ("add", "a", "x", "bool", None),
    ("add", "a", "x", "int", 10 ** 11), ("add", "a", "x", "text", "a b"), ("add", "a", "", "int", 1),
    ("add", "a", "x", ["int"], 1),
    ("cut", "a", "x"), ("cut", "a", "x", True), ("cut", "a", "x", ()), ("cut", "a", "x", "a b"),
    ("cut", "a", "x", 10 ** 11), ("cut", "a", 1, None), ("cut", "a", "x", None, None),
    ("name", "a", "x"), ("name", "a", "x", "y", "z"), ("name", "a", "x", ""), ("name", 1, "x", "y"),
    ("turn", "a", "x", "int", 0), ("turn", "a", "x", "int", "0", "0"), ("turn", "a", "x", "int", 0, 0),
    ("turn", "a", "x", "text", "0", "0"), ("turn", "a", "x", "text", 0, 0), ("turn", "a", "x", "int", True, None),
    ("turn", "a", "x", "text", None, False), ("turn", "a", "x", "text", None, None, None),
    ("turn", "a", "x", None, None, None),
    ("split", "a", "x", "y", "y", "-"), ("split", "a", "x", "y", "z", ""), ("split", "a", "x", "y", "z", "--"),
    ("split", "a", "x", "y", "z", " "), ("split", "a", "x", "y", "z", 1), ("split", "a", "x", "y", "z"),
    ("split", "a", "x", "y", "z", "-", "-"), ("split", "a", "x", "y", "z", None), ("split", "a", "x", "Y", "z", "-"),
    ("split", "a", "x", "y", "z", "\x7f"), ("split", "a", "x", "y", "z", "\t"),
    ("part", "a", "b", (), "b"), ("part", "a", "b", ["x"], "c"), ("part", "a", "b", ("x", "x"), "c"),
    ("part", "a", "b", "x", "c"), ("part", "a", "b", ("t", "u", "v", "w", "x", "y", "z"), "c"),
    ("part", "a", "b", (1,), "c"), ("part", "a", "b", ([],), "c"), ("part", "a", "b", "c", ()), ("part", "a", "b", ()),
    ("part", "a", "b", (), "c", "d"),
    ("unite", "a", "a", "b"), ("unite", "a", "b"), ("unite", "a", "b", "c", "d"), ("unite", "a", "b", 3),
    ("drop", "a"), ("put", "a", 1, ()), ("MAKE", "a", ()), (["make"], "a", ()), (True, "a"), (None,), ({}, "a"),
)

CHANGE_TEXTS = (
    (("put", "a", 1, ()), "put a 1"),
    (("put", "cats", 12, ("tom", None, 3)), "put cats 12 'tom none 3"),
    (("put", "a", 999999, (None, "none", "", "'", -99999999999, 99999999999)),
     "put a 999999 none 'none ' '' -99999999999 99999999999"),
    (("put", "abcdef", 10, (";", "0", 0)), "put abcdef 10 '; '0 0"),
    (("drop", "a", 1), "drop a 1"),
    (("drop", "abcdef", 999999), "drop abcdef 999999"),
)

NO_CHANGES = (
    (), ("put",), ("drop",), ("put", "a"), ("drop", "a"), ("put", "a", 1), ("drop", "a", 1, ()), ("drop", "a", 1, 1),
    ("put", "a", 1, (), ()), ("put", "a", 1, [1]), ("put", "a", 1, []), ("put", "a", 1, "x"), ("put", "a", 1, None),
    ("put", "a", 1, (0,) * 7), ("put", "a", 1, (True,)), ("put", "a", 1, (False,)), ("put", "a", 1, ("a b",)),
    ("put", "a", 1, ((),)), ("put", "a", 1, ([],)), ("put", "a", 1, (10 ** 11,)), ("put", "a", 0, ()),
    ("put", "a", 1000000, ()), ("put", "a", -1, ()), ("put", "a", True, ()), ("put", "a", "1", ()),
    ("put", "a", None, ()), ("put", "a", [1], ()), ("put", "A", 1, ()), ("put", "", 1, ()), ("put", "abcdefg", 1, ()),
    ("put", "a1", 1, ()), ("put", ["a"], 1, ()), ("drop", "a", 0), ("drop", "a", 1000000), ("drop", "a", True),
    ("drop", "a", False), ("drop", "A", 1), ("drop", 1, "a"), ("lay", "a", 1, ()), ("take", "a", 1), (1, "a", 1),
    ([], "a", 1), ["drop", "a", 1], ["put", "a", 1, ()], "drop a 1", ("drop", "a", 1.0),
)

VALUE_TEXTS = (
    (None, "none"), (0, "0"), (5, "5"), (-7, "-7"), (10, "10"), (99999999999, "99999999999"),
    (-99999999999, "-99999999999"), ("", "'"), ("none", "'none"), ("'", "''"), ("-7", "'-7"), (";", "';"),
    ("!", "'!"), ("~", "'~"), ("abcdefghijkl", "'abcdefghijkl"), ("!#$&()*+,-./", "'!#$&()*+,-./"),
)

NO_VALUES = (
    True, False, 10 ** 11, -10 ** 11, "abcdefghijklm", " ", "a b", " a", "a ", "\x7f", "a\x1f", "\t", "\n", [], [1],
    ["a"], (), (None,), (1,), ("a",), {}, {"a": 1}, object(), MomentError(1), 1.0, b"a",
)


class Case(unittest.TestCase):
    """A test that can tell 1 from True, and which very value an error keeps."""

    def same(self, found, wanted):
        self.assertEqual(found, wanted)
        self.assertEqual(repr(found), repr(wanted))

    def refused(self, error, value, function, *args, **named):
        with self.assertRaises(MomentError) as caught:
            function(*args, **named)
        self.assertIs(type(caught.exception), error)
        self.same(caught.exception.value, value)

    def refused_with(self, error, value, function, *args, **named):
        """As refused, and the error keeps this very object."""
        with self.assertRaises(MomentError) as caught:
            function(*args, **named)
        self.assertIs(type(caught.exception), error)
        self.assertIs(caught.exception.value, value)


def any_value(chance, kind):
    if chance.random() < 0.2:
        return None
    if kind == "int":
        return chance.choice((0, 1, -1, 5, 99999999999, -99999999999, chance.randrange(-999, 999)))
    return "".join(chance.choice("!~;'-09az") for _ in range(chance.choice((0, 1, 2, 3, 12))))


def any_columns(chance, most=6):
    names = chance.sample("uvwxyz", chance.randint(0, most))
    return tuple((name, chance.choice(("int", "text"))) for name in names)


def any_schema(chance, most=6):
    tables = sorted(chance.sample("abcdef", chance.randint(0, most)))
    return tuple((table, any_columns(chance)) for table in tables)


def any_state(chance, schema):
    return tuple((table, tuple(
        (key, tuple(any_value(chance, kind) for _, kind in columns))
        for key in sorted(chance.sample(range(1, 9), chance.randint(0, 5)))
    )) for table, columns in schema)


def any_step(chance):
    """A step by its form, over few names, so that it often finds what it names."""
    word = chance.choice(("make", "gone", "call", "add", "cut", "name", "turn", "split", "part", "unite"))
    tables, columns = chance.sample("abcdefg", 3), chance.sample("uvwxyzt", 3)
    kind, other = chance.choice((("int", "text"), ("text", "int")))
    one, two = any_value(chance, kind), any_value(chance, other)
    names = tuple(chance.sample("uvwxyz", chance.choice((0, 1, 2, 6))))
    return {
        "make": ("make", tables[0], any_columns(chance)),
        "gone": ("gone", tables[0]),
        "call": ("call", tables[0], tables[1]),
        "add": ("add", tables[0], columns[0], kind, one),
        "cut": ("cut", tables[0], columns[0], one),
        "name": ("name", tables[0], columns[0], columns[1]),
        "turn": ("turn", tables[0], columns[0], kind, one, two),
        "split": ("split", tables[0], columns[0], chance.choice(columns[:2]), columns[2], chance.choice("!-;'~")),
        "part": ("part", tables[0], chance.choice(tables[:2]), names, tables[2]),
        "unite": ("unite", tables[0], tables[1], chance.choice(tables)),
    }[word]


def any_change(chance, schema):
    """A change that can be done, but for drops where no row lies."""
    table, columns = chance.choice(schema)
    key = chance.choice((1, 2, 3, 4, 5, 999999))
    if chance.random() < 0.4:
        return ("drop", table, key)
    return ("put", table, key, tuple(any_value(chance, kind) for _, kind in columns))


def chances(many):
    """So many sources of chance, the same ones in each run."""
    return [random.Random(seed) for seed in range(many)]


# Views of each kind, with their lines.
VIEW_TEXTS = (
    (("rows", "a", (), None), "rows a -"),
    (("rows", "a", ("x",), None), "rows a x"),
    (("rows", "goods", ("price", "name"), ("price", ">", 3)), "rows goods price,name if price > 3"),
    (("rows", "a", (), ("x", "=", None)), "rows a - if x = none"),
    (("rows", "a", ("x",), ("y", "<", "sugar")), "rows a x if y < 'sugar"),
    (("rows", "a", ("x",), ("y", "=", "")), "rows a x if y = '"),
    (("rows", "a", ("x",), ("y", "=", "none")), "rows a x if y = 'none"),
    (("rows", "a", ("x",), ("y", ">", ";")), "rows a x if y > ';"),
    (("rows", "a", ("x",), ("y", ">", ",,")), "rows a x if y > ',,"),
    (("rows", "a", ("x",), ("y", ">", ",")), "rows a x if y > ',"),
    (("rows", "a", ("x",), ("y", "<", -99999999999)), "rows a x if y < -99999999999"),
    (("rows", "a", ("if",), ("if", "=", 0)), "rows a if if if = 0"),
    (("rows", "rows", ("if", "rows"), None), "rows rows if,rows"),
    (("rows", "abcdef", ("abcdef", "bcdefg", "cdefgh", "defghi", "efghij", "fghijk"), ("abcdef", "=", "abcdefghijkl")),
     "rows abcdef abcdef,bcdefg,cdefgh,defghi,efghij,fghijk if abcdef = 'abcdefghijkl"),
    (("pair", "sold", "what", "goods"), "pair sold what goods"),
    (("pair", "a", "a", "a"), "pair a a a"),
    (("count", "sold", "what"), "count sold what"),
    (("sum", "sold", "many", "what"), "sum sold many what"),
    (("sum", "a", "x", "x"), "sum a x x"),
)

# What comes near a view, and has the form of none.
NO_VIEWS = (
    (), ("rows",), ("rows", "a"), ("rows", "a", ()), ("rows", "a", (), None, None), ("rows", "a", [], None),
    ("rows", "a", "x", None), ("rows", "a", None, None), ("rows", "a", ("x", "x"), None), ("rows", "a", ("X",), None),
    ("rows", "a", tuple("tuvwxyz"), None), ("rows", "A", (), None), ("rows", "", (), None), ("rows", 1, (), None),
    ("rows", "abcdefg", (), None), ("rows", "a", (["x"],), None), ("rows", "a", ("-",), None), ("rows", "a", ("",), None),
    ("rows", "a", (), ()), ("rows", "a", (), ("x",)), ("rows", "a", (), ("x", "=")), ("rows", "a", (), ("x", "=", 1, 1)),
    ("rows", "a", (), ["x", "=", 1]), ("rows", "a", (), ("x", "==", 1)), ("rows", "a", (), ("x", "<=", 1)),
    ("rows", "a", (), ("x", "<", None)), ("rows", "a", (), ("x", ">", None)), ("rows", "a", (), ("x", "=", True)),
    ("rows", "a", (), ("x", "=", 10 ** 11)), ("rows", "a", (), ("x", "=", "a b")), ("rows", "a", (), ("X", "=", 1)),
    ("rows", "a", (), (1, "=", 1)), ("rows", "a", (), ("x", None, 1)), ("rows", "a", (), ("x", ("=",), 1)),
    ("rows", "a", (), ("x", "=", "abcdefghijklm")), ("rows", "a", (), ("x", "", 1)), ("rows", "a", (), True),
    ("rows", "a", (), ("x", [], 1)), ("rows", "a", (), ("x", "=", ())), ("rows", "a", (), "x = 1"),
    ("pair",), ("pair", "a", "x"), ("pair", "a", "x", "b", "c"), ("pair", "a", "x", None), ("pair", "a", 1, "b"),
    ("pair", "A", "x", "b"), ("pair", "a", "x", ""), ("pair", "a", ("x",), "b"), ["pair", "a", "x", "b"],
    ("count",), ("count", "a"), ("count", "a", "x", "y"), ("count", "a", None), ("count", "a", "abcdefg"),
    ("count", "a", ("x",)), ("count", "a", "-"), ("count", "", "x"),
    ("sum", "a", "x"), ("sum", "a", "x", "y", "z"), ("sum", "a", "x", None), ("sum", "a", "x", "Y"), ("sum",),
    ("ROWS", "a", (), None), ("row", "a", (), None), ("max", "a", "x"), (None, "a", "x"), (["rows"], "a", (), None),
    (("rows",), "a", (), None), (True, "a", "x"), "count a x", "rows a -", ("unfit",), ({}, "a", "x"), [], ["rows"],
)


def any_view(chance, schema):
    """A view by this schema, which has a table with a column."""
    table, columns = chance.choice([part for part in schema if part[1]])
    names, ints = [name for name, _ in columns], [name for name, kind in columns if kind == "int"]
    word = chance.choice(("rows", "rows", "pair", "count", "sum") if ints else ("rows", "count"))
    if word == "rows":
        column, kind = chance.choice(columns)
        value = any_value(chance, kind)
        sign = "=" if value is None else chance.choice("<=>")
        condition = chance.choice((None, (column, sign, value), (column, sign, value)))
        return ("rows", table, tuple(chance.sample(names, chance.randint(0, len(names)))), condition)
    if word == "pair":
        return ("pair", table, chance.choice(ints), chance.choice(schema)[0])
    if word == "count":
        return ("count", table, chance.choice(names))
    return ("sum", table, chance.choice(ints), chance.choice(names))
