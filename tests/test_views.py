"""Section 12: views of all kinds against a plain reading of their own, and their lines."""

import copy

from models import is_plainly_fit, viewed_plainly
from samples import ANYTHING, Case, NO_VIEWS, VIEW_TEXTS, any_schema, any_state, any_value, any_view, chances
from toldmoment.errors import BadSchema, BadState, BadView, NoTable
from toldmoment.states import empty_state
from toldmoment.views import check_view, touches, view_columns, view_in, view_text, viewed

SCHEMA = (
    ("goods", (("name", "text"), ("price", "int"))),
    ("none", ()),
    ("sold", (("what", "int"), ("many", "int"), ("note", "text"))),
)
STATE = (
    ("goods", ((1, ("ham", 5)), (2, ("tea", None)), (7, (None, 3)), (9, ("Tea", -3)))),
    ("none", ((2, ()),)),
    ("sold", ((3, (1, 10, "a")), (4, (8, 1, None)), (5, (None, 2, "a")), (6, (1, None, "")), (7, (2, None, None)), (8, (0, -4, "b")))),
)
SCHEMAS = ((), (("goods", ()),), (("goods", (("name", "text"),)),), SCHEMA[:1], SCHEMA[1:])


def drawn(chance):
    """A schema that has a column, and a state of it."""
    while True:
        schema = any_schema(chance)
        if any(columns for _, columns in schema):
            return schema, any_state(chance, schema)


class Viewed(Case):

    def tells(self, view, wanted):
        self.assertIsNone(check_view(SCHEMA, view))
        self.same(viewed(SCHEMA, STATE, view), wanted)

    def test_rows(self):
        self.tells(("rows", "goods", (), None), ((1, ()), (2, ()), (7, ()), (9, ())))
        self.tells(("rows", "goods", ("price",), None), ((1, (5,)), (2, (None,)), (7, (3,)), (9, (-3,))))
        self.tells(("rows", "goods", ("price", "name"), ("price", ">", 3)), ((1, (5, "ham")),))
        self.tells(("rows", "none", (), None), ((2, ()),))

    def test_conditions(self):
        for sign, value, keys in (
            ("<", 3, (9,)), ("=", 3, (7,)), (">", 3, (1,)), ("=", None, (2,)), (">", -3, (1, 7)), ("<", -3, ()), (">", -4, (1, 7, 9)),
        ):
            self.tells(("rows", "goods", (), ("price", sign, value)), tuple((key, ()) for key in keys))
        for sign, value, keys in (
            ("<", "ham", (9,)), ("=", "ham", (1,)), (">", "ham", (2,)), ("=", None, (7,)), (">", "", (1, 2, 9)), ("<", "", ()),
            ("<", "tea", (1, 9)), ("=", "Tea", (9,)), ("<", "tea!", (1, 2, 9)), (">", "Tea", (1, 2)), ("=", "none", ()),
        ):
            self.tells(("rows", "goods", (), ("name", sign, value)), tuple((key, ()) for key in keys))

    def test_texts_are_not_compared_as_numbers(self):
        schema, state = (("a", (("x", "text"),)),), (("a", ((1, ("9",)), (2, ("10",)), (3, ("-1",)))),)
        self.same(viewed(schema, state, ("rows", "a", (), ("x", "<", "9"))), ((2, ()), (3, ())))
        self.same(viewed(schema, state, ("count", "a", "x")), (("-1", 1), ("10", 1), ("9", 1)))
        schema, state = (("a", (("x", "int"),)),), (("a", ((1, (9,)), (2, (10,)), (3, (-1,)))),)
        self.same(viewed(schema, state, ("rows", "a", (), ("x", "<", 9))), ((3, ()),))
        self.same(viewed(schema, state, ("count", "a", "x")), ((-1, 1), (9, 1), (10, 1)))

    def test_pairs(self):
        self.tells(("pair", "sold", "what", "goods"), (
            (3, (1, 10, "a"), ("ham", 5)), (4, (8, 1, None), (None, None)), (5, (None, 2, "a"), (None, None)),
            (6, (1, None, ""), ("ham", 5)), (7, (2, None, None), ("tea", None)), (8, (0, -4, "b"), (None, None)),
        ))
        self.tells(("pair", "goods", "price", "none"), (
            (1, ("ham", 5), ()), (2, ("tea", None), ()), (7, (None, 3), ()), (9, ("Tea", -3), ()),
        ))
        self.tells(("pair", "goods", "price", "goods"), (
            (1, ("ham", 5), (None, None)), (2, ("tea", None), (None, None)), (7, (None, 3), (None, None)),
            (9, ("Tea", -3), (None, None)),
        ))
        self.tells(("pair", "sold", "many", "sold"), tuple(
            (key, values, {3: (1, 10, "a")}.get(values[1], (None,) * 3)) for key, values in STATE[2][1]
        ))

    def test_counts(self):
        self.tells(("count", "sold", "what"), ((None, 1), (0, 1), (1, 2), (2, 1), (8, 1)))
        self.tells(("count", "sold", "note"), ((None, 2), ("", 1), ("a", 2), ("b", 1)))
        self.tells(("count", "goods", "name"), ((None, 1), ("Tea", 1), ("ham", 1), ("tea", 1)))

    def test_sums(self):
        self.tells(("sum", "sold", "many", "what"), ((None, 2), (0, -4), (1, 10), (2, 0), (8, 1)))
        self.tells(("sum", "sold", "many", "note"), ((None, 1), ("", 0), ("a", 12), ("b", -4)))
        self.tells(("sum", "sold", "many", "many"), ((None, 0), (-4, -4), (1, 1), (2, 2), (10, 10)))
        schema = (("a", (("x", "int"), ("y", "int"))),)
        state = (("a", tuple((key, (99999999999, None)) for key in range(1, 40))),)
        self.same(viewed(schema, state, ("sum", "a", "x", "y")), ((None, 39 * 99999999999),))
        state = (("a", ((1, (5, 1)), (2, (-5, 1)))),)
        self.same(viewed(schema, state, ("sum", "a", "x", "y")), ((1, 0),))

    def test_without_rows(self):
        for view in (("rows", "goods", ("name",), None), ("pair", "sold", "what", "goods"), ("count", "sold", "what"),
                     ("sum", "sold", "many", "what")):
            self.same(viewed(SCHEMA, empty_state(SCHEMA), view), ())

    def test_against_a_plain_reading(self):
        words = {}
        for chance in chances(1500):
            schema, state = drawn(chance)
            view = any_view(chance, schema)
            told = viewed(schema, state, view)
            self.same(told, viewed_plainly(schema, state, view))
            words[view[0]] = words.get(view[0], 0) + (told != ())
            rows = dict(state)[view[1]]
            if view[0] == "count":
                self.assertEqual(sum(many for _, many in told), len(rows))
            elif view[0] == "pair" or (view[0] == "rows" and view[3] is None):
                self.same(tuple(row[0] for row in told), tuple(key for key, _ in rows))
        self.assertGreater(min(words.values()), 100)
        self.assertEqual(len(words), 4)

    def test_what_it_hangs_on(self):
        for chance in chances(300):
            schema, state = drawn(chance)
            view = any_view(chance, schema)
            other = any_state(chance, schema)
            mixed = tuple(mine if touches(schema, view, mine[0]) else its for mine, its in zip(state, other))
            self.same(viewed(schema, mixed, view), viewed(schema, state, view))


class Columns(Case):

    def test_view_columns(self):
        for view, wanted in (
            (("rows", "goods", (), None), ()), (("rows", "goods", ("price", "name"), ("name", "=", None)), ("price", "name")),
            (("pair", "sold", "what", "goods"), ("what", "many", "note", "name", "price")),
            (("pair", "sold", "many", "none"), ("what", "many", "note")),
            (("pair", "goods", "price", "goods"), ("name", "price", "name", "price")),
            (("count", "sold", "note"), ("note", "count")), (("sum", "sold", "many", "note"), ("note", "sum")),
            (("sum", "sold", "many", "what"), ("what", "sum")),
        ):
            self.same(view_columns(SCHEMA, view), wanted)

    def test_as_many_as_values_are_told(self):
        for chance in chances(300):
            schema, state = drawn(chance)
            view = any_view(chance, schema)
            for row in viewed(schema, state, view):
                values = row if view[0] in ("count", "sum") else [value for part in row[1:] for value in part]
                self.assertEqual(len(values), len(view_columns(schema, view)))

    def test_touches(self):
        for view, wanted in (
            (("rows", "goods", (), None), (True, False, False)), (("pair", "sold", "what", "goods"), (True, False, True)),
            (("pair", "sold", "what", "sold"), (False, False, True)), (("count", "sold", "what"), (False, False, True)),
            (("sum", "sold", "many", "what"), (False, False, True)), (("rows", "none", (), None), (False, True, False)),
            (("pair", "goods", "price", "none"), (True, True, False)),
        ):
            self.same(tuple(touches(SCHEMA, view, table) for table, _ in SCHEMA), wanted)
            for table in (*ANYTHING, "cats", "what", ("goods",), ["goods"]):
                if table != "none":
                    self.refused_with(NoTable, table, touches, SCHEMA, view, table)


class Refused(Case):

    def test_what_fits_no_schema(self):
        for view in (
            ("rows", "cats", (), None), ("rows", "goods", ("many",), None), ("rows", "goods", ("name", "what"), None),
            ("rows", "goods", (), ("many", "=", None)), ("rows", "goods", (), ("price", "=", "5")),
            ("rows", "goods", (), ("name", "=", 5)), ("rows", "none", ("name",), None), ("rows", "none", (), ("name", "=", None)),
            ("pair", "sold", "note", "goods"), ("pair", "sold", "name", "goods"), ("pair", "sold", "what", "cats"),
            ("pair", "cats", "what", "goods"), ("count", "goods", "many"), ("count", "none", "name"), ("count", "cats", "name"),
            ("sum", "sold", "note", "what"), ("sum", "sold", "what", "name"), ("sum", "goods", "name", "price"),
            ("sum", "cats", "what", "many"), ("sum", "sold", "price", "what"),
        ):
            self.none(SCHEMA, STATE, view)

    def none(self, schema, state, view):
        self.refused_with(BadView, view, check_view, schema, view)
        self.refused_with(BadView, view, viewed, schema, state, view)
        self.refused_with(BadView, view, view_columns, schema, view)
        self.refused_with(BadView, view, touches, schema, view, [])

    def test_what_has_no_form(self):
        for view in (*NO_VIEWS, *ANYTHING):
            self.none(SCHEMA, STATE, view)
            self.refused_with(BadView, view, view_text, view)

    def test_views_of_other_schemas(self):
        fit = 0
        for chance in chances(600):
            schema, state = drawn(chance)
            view = any_view(chance, drawn(chance)[0])
            if is_plainly_fit(schema, view):
                fit += 1
                self.assertIsNone(check_view(schema, view))
            else:
                self.none(schema, state, view)
        self.assertGreater(fit, 20)

    def test_in_their_sequence(self):
        view = ("count", "sold", "what")
        for value in ANYTHING:
            if value != ():
                for function, more in ((check_view, (1,)), (viewed, (1, 1)), (view_columns, (1,)), (touches, (1, 1))):
                    self.refused_with(BadSchema, value, function, value, *more)
            self.refused_with(BadState, value, viewed, SCHEMA, value, 1)
            self.refused_with(BadState, value, viewed, SCHEMA, value, view)
        for schema in SCHEMAS:
            self.refused_with(BadState, STATE, viewed, schema, STATE, view)


class Lines(Case):

    def test_there_and_back(self):
        for view, text in VIEW_TEXTS:
            self.same(view_text(view), text)
            self.same(view_in(text), view)

    def test_of_drawn_views(self):
        for chance in chances(600):
            view = any_view(chance, drawn(chance)[0])
            self.same(view_in(view_text(view)), view)

    def test_what_is_no_line(self):
        for text in (
            *[value for value in ANYTHING if not isinstance(value, str)], "", " ", "a", "rows", "rows a", "rows a ", "rows a  -",
            " rows a -", "rows a - ", "rows a -\n", "rows  a -", "rows a -,x", "rows a x,", "rows a ,x", "rows a x,,y", "rows a x,x",
            "rows a x y", "rows a X", "rows a x, y", "rows A -", "rows abcdefg -", "rows a t,u,v,w,x,y,z", "rows a - if",
            "rows a - if x", "rows a - if x =", "rows a - if x = ", "rows a - if x = 1 ", "rows a - if x = 1 2", "rows a - of x = 1",
            "rows a - if x == 1", "rows a - if x < none", "rows a - if x > none", "rows a - if x = 01", "rows a - if x = -0",
            "rows a - if x = +1", "rows a - if x = None", "rows a - if x = x", "rows a - if x = 100000000000",
            "rows a - if x = 'abcdefghijklm", "rows a - if X = 1", "rows a - if  = 1", "rows a - if x = '\x7f", "rows a - if x = 'a\t",
            "rows a - if x = 'a b", "pair a x", "pair a x b c", "pair a x -", "pair  x b", "count a", "count a x y", "count a x,y",
            "count a -", "count a 'x", "count a x ", "sum a x", "sum a x y z", "sum a x ", "Count a x", "max a x", "count\ta x",
            "count a x\n", "count a x ; count a y", "unfit", "-", "none", "show 1", b"count a x",
        ):
            with self.subTest(text):
                self.assertIsNone(view_in(text))

    def test_a_line_that_is_one_is_the_view_s_own(self):
        for chance in chances(3000):
            text = view_text(any_view(chance, drawn(chance)[0]))
            at = chance.randrange(len(text))
            near = text[:at] + chance.choice(("", " ", ",", "x", "-", "1", "'", "=")) + text[at + chance.choice((0, 1)):]
            view = view_in(near)
            if view is not None:
                self.same(view_text(view), near)


class Handed(Case):

    def test_by_name_and_twice(self):
        view, text = VIEW_TEXTS[2]
        for _ in range(2):
            self.assertIsNone(check_view(view=view, schema=SCHEMA))
            self.same(viewed(view=view, state=STATE, schema=SCHEMA), ((1, (5, "ham")),))
            self.same(view_columns(view=view, schema=SCHEMA), ("price", "name"))
            self.same(touches(table="goods", view=view, schema=SCHEMA), True)
            self.same(view_text(view=view), text)
            self.same(view_in(text=text), view)

    def test_nothing_that_was_handed_in_is_altered(self):
        for view in (*NO_VIEWS, *ANYTHING, *[view for view, _ in VIEW_TEXTS]):
            if type(view) is object:
                continue
            ahead = copy.deepcopy(view)
            for function in (lambda: check_view(SCHEMA, view), lambda: viewed(SCHEMA, STATE, view), lambda: view_in(view),
                             lambda: touches(SCHEMA, view, view), lambda: view_columns(SCHEMA, view), lambda: view_text(view)):
                try:
                    function()
                except (BadView, NoTable):
                    pass
            self.assertEqual(repr(view), repr(ahead))

    def test_values_of_all_kinds(self):
        for chance in chances(100):
            schema, state = drawn(chance)
            table, columns = chance.choice([part for part in schema if part[1]])
            name, kind = chance.choice(columns)
            value = any_value(chance, kind)
            told = viewed(schema, state, ("rows", table, (name,), (name, "=", value)))
            self.same([values for _, values in told], [(value,)] * len(told))
