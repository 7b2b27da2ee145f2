"""Section 5: states, what is dealt to them, and what lies under one key."""

from samples import ANYTHING, Case, NO_CHANGES, any_change, any_schema, any_state, chances
from toldmoment.errors import (
    BadChanges, BadKey, BadRows, BadSchema, BadState, BadValues, MomentError, NoRow, NoTable,
)
from toldmoment.states import dealt, empty_state, fits, key_rows, keys_of, row_in, with_key_rows

SCHEMA = (("a", (("x", "int"), ("y", "text"))), ("b", (("z", "text"),)), ("c", ()))
EMPTY = (("a", ()), ("b", ()), ("c", ()))
STATE = (("a", ((2, (5, "u")), (7, (None, None)))), ("b", ((2, ("v",)), (999999, ("",)))), ("c", ((1, ()), (7, ()))))
NO_STATES = (
    None, True, 0, "", [], list(STATE), {}, (), STATE[:2], STATE[::-1], (*STATE, ("d", ())), (["a", ()], *EMPTY[1:]),
    (("a", ((7, (1, "")), (2, (1, "")))), *EMPTY[1:]), (("a", ((2, (1, "")), (2, (1, "")))), *EMPTY[1:]),
    (("a", ((2, ("", 1)),)), *EMPTY[1:]), (("a", ((True, (1, "")),)), *EMPTY[1:]), (("a", ((1, (True, "")),)), *EMPTY[1:]),
)
NO_KEYS = (0, -1, 1000000, True, False, None, "", "1", "a", [], [1], (), (1,), {}, object(), 1.0)


class Empty(Case):

    def test_each_table_without_rows(self):
        self.same(empty_state(SCHEMA), EMPTY)
        self.same(empty_state(()), ())
        self.assertIs(fits(SCHEMA, EMPTY), True)


class Dealt(Case):

    def behind(self, changes, *tables):
        self.same(dealt(SCHEMA, STATE, changes), tables)

    def test_no_change_changes_nothing(self):
        self.behind((), *STATE)

    def test_put_lays_the_row_there_whatever_lay_there(self):
        self.behind((("put", "a", 1, (0, "")),), ("a", ((1, (0, "")), *STATE[0][1])), *STATE[1:])
        self.behind((("put", "a", 5, (0, "")),), ("a", (STATE[0][1][0], (5, (0, "")), STATE[0][1][1])), *STATE[1:])
        self.behind((("put", "a", 999999, (None, "w")),), ("a", (*STATE[0][1], (999999, (None, "w")))), *STATE[1:])
        self.behind((("put", "a", 2, (6, None)),), ("a", ((2, (6, None)), STATE[0][1][1])), *STATE[1:])
        self.behind((("put", "c", 2, ()),), *STATE[:2], ("c", ((1, ()), (2, ()), (7, ()))))

    def test_drop_takes_it_away(self):
        self.behind((("drop", "a", 2),), ("a", STATE[0][1][1:]), *STATE[1:])
        self.behind((("drop", "b", 999999),), STATE[0], ("b", STATE[1][1][:1]), STATE[2])
        self.behind((("drop", "c", 7), ("drop", "c", 1)), *STATE[:2], ("c", ()))

    def test_changes_are_done_one_behind_another(self):
        self.behind((("put", "b", 3, ("p",)), ("put", "b", 3, ("q",))), STATE[0],
                    ("b", (STATE[1][1][0], (3, ("q",)), STATE[1][1][1])), STATE[2])
        self.behind((("put", "b", 3, ("p",)), ("drop", "b", 3)), *STATE)
        self.behind((("drop", "b", 2), ("put", "b", 2, ("w",))), STATE[0], ("b", ((2, ("w",)), STATE[1][1][1])), STATE[2])
        self.behind((("drop", "a", 2), ("drop", "b", 2), ("put", "c", 2, ())), ("a", STATE[0][1][1:]),
                    ("b", STATE[1][1][1:]), ("c", ((1, ()), (2, ()), (7, ()))))
        self.behind(tuple(("put", "c", key, ()) for key in range(12, 0, -1)), *STATE[:2],
                    ("c", tuple((key, ()) for key in range(1, 13))))

    def test_arguments_are_looked_at_in_their_sequence(self):
        for schema in (None, list(SCHEMA), SCHEMA[::-1], ((True, ()),)):
            self.refused_with(BadSchema, schema, dealt, schema, None, None)
        for state in NO_STATES + ANYTHING:
            with self.subTest(repr(state)):
                self.refused_with(BadState, state, dealt, SCHEMA, state, None)
                self.refused_with(BadState, state, dealt, SCHEMA, state, (("drop", "d", 1),))

    def test_changes_that_are_none(self):
        good = ("put", "c", 1, ())
        wrong = [[], [good], (good,) * 13, good, "put c 1", (good, None), (None, good), (list(good),), ((good,),)]
        wrong.extend([(change,) for change in NO_CHANGES])
        wrong.extend([(("drop", "d", 1), good, change) for change in NO_CHANGES])
        for changes in wrong:
            with self.subTest(repr(changes)):
                self.refused_with(BadChanges, changes, dealt, SCHEMA, STATE, changes)
        for changes in ANYTHING:
            if changes != ():
                with self.subTest(repr(changes)):
                    self.refused_with(BadChanges, changes, dealt, SCHEMA, STATE, changes)

    def test_what_cannot_be_done(self):
        for change, error, value in (
            (("put", "d", 1, ()), NoTable, "d"),
            (("drop", "d", 1), NoTable, "d"),
            (("put", "d", 1, (None,) * 6), NoTable, "d"),
            (("put", "a", 1, ()), BadValues, ()),
            (("put", "a", 2, (5,)), BadValues, (5,)),
            (("put", "a", 2, (5, "u", None)), BadValues, (5, "u", None)),
            (("put", "a", 2, ("u", 5)), BadValues, ("u", 5)),
            (("put", "a", 2, (None, 5)), BadValues, (None, 5)),
            (("put", "b", 2, (0,)), BadValues, (0,)),
            (("put", "c", 2, (None,)), BadValues, (None,)),
            (("drop", "a", 1), NoRow, ("a", 1)),
            (("drop", "b", 7), NoRow, ("b", 7)),
            (("drop", "c", 2), NoRow, ("c", 2)),
            (("drop", "c", 999999), NoRow, ("c", 999999)),
        ):
            with self.subTest(change):
                self.refused(error, value, dealt, SCHEMA, STATE, (change,))

    def test_the_first_change_that_cannot_be_done_at_each_place(self):
        good = tuple(("put", "c", key, ()) for key in range(1, 13))
        for change, error, value in ((("put", "d", 1, ()), NoTable, "d"), (("put", "b", 2, ()), BadValues, ()),
                                     (("drop", "b", 7), NoRow, ("b", 7))):
            for other in (("drop", "e", 8), ("put", "a", 9, ()), ("drop", "a", 9)):
                for at in range(11):
                    with self.subTest(change, other=other, at=at):
                        changes = (*good[:at], change, other, *good[at + 2:])
                        self.refused(error, value, dealt, SCHEMA, STATE, changes)
                with self.subTest(change, at=11):
                    self.refused(error, value, dealt, SCHEMA, STATE, (*good[:11], change))

    def test_a_row_is_there_or_not_as_the_changes_ahead_left_it(self):
        self.refused(NoRow, ("a", 2), dealt, SCHEMA, STATE, (("drop", "a", 2), ("drop", "a", 2)))
        self.refused(NoRow, ("a", 2), dealt, SCHEMA, EMPTY, (("put", "a", 3, (1, "")), ("drop", "a", 2)))
        self.refused(NoRow, ("b", 2), dealt, SCHEMA, EMPTY, (("put", "a", 2, (1, "")), ("drop", "b", 2)))
        self.same(dealt(SCHEMA, EMPTY, (("put", "c", 4, ()), ("drop", "c", 4))), EMPTY)

    def test_what_is_refused_leaves_the_state_as_it_was(self):
        self.refused(NoRow, ("a", 1), dealt, SCHEMA, STATE, (("drop", "a", 2), ("drop", "a", 1)))
        self.behind((), *STATE)

    def test_changes_of_unlike_keys_in_another_sequence(self):
        for chance in chances(300):
            schema = any_schema(chance) or SCHEMA
            state = any_state(chance, schema)
            changes = [any_change(chance, schema) for _ in range(chance.randint(0, 12))]
            keys = sorted({change[2] for change in changes}, key=lambda key: chance.random())
            other = [change for key in keys for change in changes if change[2] == key]
            try:
                behind = dealt(schema, state, tuple(changes))
            except NoRow:
                with self.assertRaises(NoRow):
                    dealt(schema, state, tuple(other))
            else:
                self.same(dealt(schema, state, tuple(other)), behind)
                self.assertIs(fits(schema, behind), True)
                for key in range(1, 9):
                    if key not in keys:
                        self.same(key_rows(behind, key), key_rows(state, key))


class Looked(Case):

    def test_keys_of(self):
        self.same(keys_of(STATE), (1, 2, 7, 999999))
        self.same(keys_of(EMPTY), ())
        self.same(keys_of(()), ())
        self.same(keys_of((("a", ((9, ()), (10, ()))), ("b", ((2, ()), (100, ()))))), (2, 9, 10, 100))

    def test_row_in(self):
        self.same(row_in(STATE, "a", 2), (5, "u"))
        self.same(row_in(STATE, "b", 999999), ("",))
        self.same(row_in(STATE, "c", 7), ())
        for table, key in (("a", 1), ("a", 999999), ("b", 7), ("c", 2)):
            self.assertIsNone(row_in(STATE, table, key))

    def test_row_in_refuses_the_table_then_the_key(self):
        for table in (*ANYTHING, "d", "A", "", "ab", ("a",), ["a"]):
            if table != "a":
                with self.subTest(repr(table)):
                    self.refused_with(NoTable, table, row_in, STATE, table, 2)
                    self.refused_with(NoTable, table, row_in, STATE, table, 0)
        for key in NO_KEYS:
            with self.subTest(repr(key)):
                self.refused_with(BadKey, key, row_in, STATE, "c", key)
        self.refused_with(NoTable, None, row_in, (), None, None)

    def test_key_rows(self):
        self.same(key_rows(STATE, 1), (("a", None), ("b", None), ("c", ())))
        self.same(key_rows(STATE, 2), (("a", (5, "u")), ("b", ("v",)), ("c", None)))
        self.same(key_rows(STATE, 7), (("a", (None, None)), ("b", None), ("c", ())))
        self.same(key_rows(STATE, 3), (("a", None), ("b", None), ("c", None)))
        self.same(key_rows((), 3), ())
        for key in NO_KEYS:
            with self.subTest(repr(key)):
                self.refused_with(BadKey, key, key_rows, STATE, key)


class WithKeyRows(Case):

    def behind(self, key, rows, *tables):
        self.same(with_key_rows(SCHEMA, STATE, key, rows), tables)

    def test_just_this_lies_under_the_key(self):
        none = (("a", None), ("b", None), ("c", None))
        self.behind(3, none, *STATE)
        self.behind(2, none, ("a", STATE[0][1][1:]), ("b", STATE[1][1][1:]), STATE[2])
        self.behind(2, (("a", (0, "")), ("b", None), ("c", ())), ("a", ((2, (0, "")), STATE[0][1][1])),
                    ("b", STATE[1][1][1:]), ("c", ((1, ()), (2, ()), (7, ()))))
        self.behind(1, (("a", (None, None)), ("b", (None,)), ("c", None)), ("a", ((1, (None, None)), *STATE[0][1])),
                    ("b", ((1, (None,)), *STATE[1][1])), ("c", ((7, ()),)))
        self.behind(999999, (("a", None), ("b", ("w",)), ("c", ())), STATE[0], ("b", (STATE[1][1][0], (999999, ("w",)))),
                    ("c", (*STATE[2][1], (999999, ()))))
        self.same(with_key_rows((), (), 1, ()), ())

    def test_what_is_refused_in_its_sequence(self):
        rows = key_rows(STATE, 2)
        for schema in (None, list(SCHEMA), SCHEMA[::-1]):
            self.refused_with(BadSchema, schema, with_key_rows, schema, None, None, None)
        for state in NO_STATES:
            self.refused_with(BadState, state, with_key_rows, SCHEMA, state, None, None)
        for key in NO_KEYS:
            self.refused_with(BadKey, key, with_key_rows, SCHEMA, STATE, key, None)
            self.refused_with(BadKey, key, with_key_rows, SCHEMA, STATE, key, rows)

    def test_rows_that_do_not_tell_what_a_key_has(self):
        a, b, c = ("a", (5, "u")), ("b", ("v",)), ("c", ())
        wrong = [
            (a, b), (b, c), (a, b, c, c), (a, b, c, ("d", None)), (a, c, b), (c, b, a), [a, b, c], (list(a), b, c),
            (("a",), b, c), (("a", None, None), b, c), (("d", None), b, c), (("A", None), b, c), (("a", [5, "u"]), b, c),
            (("a", ()), b, c), (("a", (5,)), b, c), (("a", (5, "u", None)), b, c), (("a", ("u", 5)), b, c),
            (("a", (True, "u")), b, c), (("a", (5, "a b")), b, c), (("a", (10 ** 11, "u")), b, c), (("a", False), b, c),
            (("a", ""), b, c), (("a", {}), b, c), (a, b, ("c", (None,))), (a, b, ("c", [])), (a, b, ("c", 0)), (a, b, None),
            ("aN", b, c), ((["a"], None), b, c), (("a", ((2, (5, "u")),)), b, c), {"a": None}, (a, a, c), (a, b, b),
        ]
        for rows in (*wrong, *ANYTHING):
            with self.subTest(repr(rows)):
                self.refused_with(BadRows, rows, with_key_rows, SCHEMA, STATE, 2, rows)
        self.refused(BadRows, (a,), with_key_rows, (), (), 2, (a,))

    def test_put_back_key_by_key_it_is_the_state(self):
        for chance in chances(200):
            schema = any_schema(chance)
            state, other = any_state(chance, schema), any_state(chance, schema)
            found = empty_state(schema)
            for key in sorted(keys_of(state), key=lambda key: chance.random()):
                found = with_key_rows(schema, found, key, key_rows(state, key))
                self.assertIs(fits(schema, found), True)
                self.same(key_rows(found, key), key_rows(state, key))
            self.same(found, state)
            for key in (*keys_of(state), *keys_of(other)):
                other = with_key_rows(schema, other, key, key_rows(state, key))
            self.same(other, state)
            for table, rows in state:
                for key in range(1, 9):
                    self.same(row_in(state, table, key), dict(rows).get(key))
                    self.assertIn((table, row_in(state, table, key)), key_rows(state, key))


class Names(Case):

    def test_all_arguments_may_be_handed_in_by_name(self):
        self.same(empty_state(schema=SCHEMA), EMPTY)
        self.assertIs(fits(value=STATE, schema=SCHEMA), True)
        self.same(dealt(changes=(), state=STATE, schema=SCHEMA), STATE)
        self.same(keys_of(state=STATE), (1, 2, 7, 999999))
        self.same(row_in(key=2, table="a", state=STATE), (5, "u"))
        self.same(key_rows(key=1, state=STATE), (("a", None), ("b", None), ("c", ())))
        rows = (("a", None), ("b", None), ("c", None))
        self.same(with_key_rows(rows=rows, key=3, state=STATE, schema=SCHEMA), STATE)

    def test_nothing_that_is_refused_is_altered(self):
        rows, changes = [["a", None], ["b", None]], [["put", "a", 1, []]]
        for function, args in ((dealt, (SCHEMA, STATE, changes)), (dealt, (SCHEMA, STATE, (changes,))),
                               (with_key_rows, (SCHEMA, STATE, 1, rows)), (with_key_rows, (SCHEMA, rows, 1, rows)),
                               (empty_state, (rows,)), (fits, (changes, rows)), (row_in, (STATE, rows, 1)),
                               (key_rows, (STATE, rows))):
            with self.assertRaises(MomentError):
                function(*args)
        self.assertIs(fits(SCHEMA, rows), False)
        self.assertEqual((rows, changes), ([["a", None], ["b", None]], [["put", "a", 1, []]]))
