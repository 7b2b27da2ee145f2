"""Section 2: what a name, a key, columns, a schema and a state are, and what comes near them."""

from samples import ANYTHING, Case, NO_VALUES, VALUE_TEXTS
from toldmoment.errors import BadKey, BadSchema, BadStep
from toldmoment.schemas import change_in, change_text, step_text, stepped
from toldmoment.states import empty_state, fits, key_rows

GOOD_NAMES = ("a", "z", "ab", "abcdef", "zzzzzz", "none", "int", "text", "put", "make")
BAD_NAMES = ("", "abcdefg", "A", "aB", "a1", "a_b", "a b", " a", "a ", "a\n", "`", "{", "1", "'a", "\xe9", "\xdf", None,
             True, 1, ["a"], ("a",), {}, b"a")

NO_SCHEMAS = (
    None, True, 0, "", "a", [], {}, (1,), ((),), ("a",), (("a",),), (("a", (), ()),), (["a", ()],), [("a", ())],
    (("a", []),), (("a", None),), (("a", "x"),), (("a", (("x",),)),), (("a", (("x", "int", 1),)),),
    (("a", (["x", "int"],)),), (("a", (("x", "bool"),)),), (("a", (("x", None),)),), (("a", (("x", ["int"]),)),),
    (("a", (("X", "int"),)),), (("a", (("", "int"),)),), (("a", (("abcdefg", "int"),)),), (("a", ((1, "int"),)),),
    (("a", (("x", "int"), ("x", "int"))),), (("a", (("x", "int"), ("y", "int"), ("x", "text"))),),
    (("b", ()), ("a", ())), (("a", ()), ("a", ())), (("a", ()), ("b", ()), ("b", (("x", "int"),))),
    (("a", ()), ("c", ()), ("b", ())), (("A", ()),), (("", ()),), (("abcdefg", ()),), ((1, ()),), ((["a"], ()),),
    tuple((name, ()) for name in "abcdefg"), (("a", tuple((name, "int") for name in "tuvwxyz")),),
    ("ab",), (("a", ("xi",)),), (("a", ()), None), (("a", ()), ("b", ("int",))), (("a", (("x", "Int"),)),),
)


class Words(Case):

    def test_names(self):
        for name in GOOD_NAMES:
            with self.subTest(name):
                self.same(empty_state(((name, ((name, "int"),)),)), ((name, ()),))
                self.same(change_in(change_text(("drop", name, 1))), ("drop", name, 1))
        for name in BAD_NAMES:
            for schema in (((name, ()),), (("a", ((name, "int"),)),)):
                with self.subTest(repr(name)):
                    self.refused_with(BadSchema, schema, empty_state, schema)
            step = ("gone", name)
            self.refused_with(BadStep, step, step_text, step)

    def test_keys(self):
        for key in (1, 2, 10, 999998, 999999):
            with self.subTest(key):
                self.same(key_rows((("a", ((key, ()),)),), key), (("a", ()),))
                self.assertIs(fits((("a", ()),), (("a", ((key, ()),)),)), True)
        for key in (0, -1, 1000000, 10 ** 11, True, False, None, "1", "", [], [1], (1,), {}, 1.0):
            with self.subTest(repr(key)):
                self.refused_with(BadKey, key, key_rows, (("a", ()),), key)
                self.assertIs(fits((("a", ()),), (("a", ((key, ()),)),)), False)

    def test_values_are_of_their_kind_alone_and_none_of_both(self):
        ints, texts = (("a", (("x", "int"),)),), (("a", (("x", "text"),)),)
        for value, _ in VALUE_TEXTS:
            state = (("a", ((1, (value,)),)),)
            with self.subTest(repr(value)):
                self.assertIs(fits(ints, state), not isinstance(value, str))
                self.assertIs(fits(texts, state), not isinstance(value, int))
        for value in NO_VALUES:
            state = (("a", ((1, (value,)),)),)
            with self.subTest(repr(value)):
                self.assertIs(fits(ints, state), False)
                self.assertIs(fits(texts, state), False)

    def test_schemas(self):
        for schema in ((), (("a", ()),), (("a", ()), ("b", ())), (("a", (("y", "int"), ("x", "text"))),),
                       (("a", (("x", "int"),)), ("b", (("x", "int"),))), (("ab", ()), ("b", ())),
                       tuple((name, tuple((name, "text") for name in "zyxwvu")) for name in "abcdef")):
            with self.subTest(schema):
                self.same(empty_state(schema), tuple((table, ()) for table, _ in schema))

    def test_what_is_no_schema_is_refused_with_itself(self):
        for value in NO_SCHEMAS + ANYTHING:
            if value != ():
                with self.subTest(repr(value)):
                    self.refused_with(BadSchema, value, empty_state, value)
                    self.refused_with(BadSchema, value, fits, value, ())
                    self.refused_with(BadSchema, value, stepped, value, ("gone", "a"))


class Fits(Case):

    SCHEMA = (("a", (("x", "int"), ("y", "text"))), ("b", ()))

    def test_states(self):
        row, far = (1, (5, "u")), (999999, (None, None))
        for state in ((("a", ()), ("b", ())), (("a", (row,)), ("b", ())), (("a", (row, far)), ("b", ((1, ()), (2, ())))),
                      (("a", ((9, (0, "")), (10, (-1, "~")))), ("b", ()))):
            with self.subTest(state):
                self.assertIs(fits(self.SCHEMA, state), True)
        self.assertIs(fits((), ()), True)

    def test_what_is_no_state(self):
        row, b = (1, (5, "u")), ("b", ())
        wrong = [
            (), (("a", ()),), (b,), (b, ("a", ())), (("a", ()), b, b), (("a", ()), b, ("c", ())), [("a", ()), b],
            (["a", ()], b), (("a", []), b), (("a", None), b), (("a", ((),)), b), (("a", (1,)), b), (("c", ()), b),
            (("a", (), ()), b), (("a",), b), ("ab", b), (("a", (list(row),)), b), (("a", [row]), b), (("a", row), b),
            (("a", ((1, [5, "u"]),)), b), (("a", ((1, (5,)),)), b), (("a", ((1, (5, "u", None)),)), b),
            (("a", ((1, ("u", 5)),)), b), (("a", ((1, (True, "u")),)), b), (("a", ((True, (5, "u")),)), b),
            (("a", ((0, (5, "u")),)), b), (("a", ((1000000, (5, "u")),)), b), (("a", ((1, None),)), b),
            (("a", ((1, (5, "u"), 0),)), b), (("a", ((1,),)), b), (("a", (row, row)), b), (("a", ((2, (5, "u")), row)), b),
            (("a", (row, (3, (5, "u")), (2, (5, "u")))), b), (("a", (row, (1, (6, "u")))), b),
            (("a", ((1, (5, "a b")),)), b), (("a", ((1, (10 ** 11, "u")),)), b), (("a", (row,)), ("b", ((1, (None,)),))),
            (("a", ((1, ()),)), b), (("a", ((1, "5u"),)), b), ((["a"], ()), b), (("A", ()), b), {"a": (), "b": ()},
            (("a", ()), None), (("a", ()), ("b", None)), (("a", ()), ("b", ((1, ()), (1, ())))),
        ]
        for value in (*wrong, *ANYTHING):
            with self.subTest(repr(value)):
                self.assertIs(fits(self.SCHEMA, value), False)
        for value in ANYTHING:
            with self.subTest(repr(value)):
                self.assertIs(fits((), value), isinstance(value, tuple) and len(value) == 0)
