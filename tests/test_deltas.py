"""Section 13: kept views, behind each of many changes, against the view of the state as it is then."""

from models import viewed_plainly
from samples import ANYTHING, Case, NO_VIEWS, any_schema, any_state, any_value, any_view, chances
from toldmoment.deltas import Kept
from toldmoment.errors import BadChanges, BadKey, BadRows, BadSchema, BadState, BadView
from toldmoment.states import empty_state, key_rows, keys_of, with_key_rows
from toldmoment.views import viewed

SCHEMA = (("goods", (("name", "text"), ("price", "int"))), ("sold", (("what", "int"), ("many", "int"))))
STATE = (("goods", ((1, ("ham", 5)), (2, ("tea", None)))), ("sold", ((3, (1, 10)), (4, (9, 1)))))
PAIR, TOTAL = ("pair", "sold", "what", "goods"), ("sum", "sold", "many", "what")
VIEWS = (PAIR, TOTAL, ("count", "sold", "what"), ("rows", "goods", ("price",), ("name", ">", "ham")))
NO_ROWS = (("goods", None), ("sold", None))
KEYS = (1, 2, 3, 4, 5, 8, 9, 999999)


def any_rows(chance, schema):
    """What a key may have; its integers are often keys."""
    return tuple((table, None if chance.random() < 0.4 else tuple(
        chance.choice(KEYS) if kind == "int" and chance.random() < 0.6 else any_value(chance, kind) for _, kind in columns
    )) for table, columns in schema)


def drawn(chance):
    """A schema, a state of it, and a view."""
    while True:
        schema = any_schema(chance, 4)
        if any(columns for _, columns in schema):
            state = empty_state(schema)
            for key in KEYS[:chance.randint(0, 8)]:
                state = with_key_rows(schema, state, key, any_rows(chance, schema))
            return schema, state, any_view(chance, schema)


class Keeping(Case):

    def is_at(self, kept, schema, state, view):
        self.same((kept.schema, kept.view), (schema, view))
        self.same(kept.tells, viewed(schema, state, view))
        for key in KEYS:
            self.same(kept.rows(key), key_rows(state, key))
        self.assertTrue(kept == Kept(schema, state, view))
        self.assertFalse(kept != Kept(schema, state, view))

    def test_at_first(self):
        for chance in chances(300):
            schema, state, view = drawn(chance)
            kept = Kept(schema, state, view)
            self.is_at(kept, schema, state, view)
            self.same(kept.tells, viewed_plainly(schema, state, view))

    def test_changes_of_one_key(self):
        moved = {}
        for chance in chances(150):
            schema, state, view = drawn(chance)
            kept = Kept(schema, state, view)
            for _ in range(15):
                key, rows = chance.choice(KEYS), any_rows(chance, schema)
                ahead, state = kept.tells, with_key_rows(schema, state, key, rows)
                self.assertIsNone(kept.change(key, rows))
                self.is_at(kept, schema, state, view)
                moved[view[0]] = moved.get(view[0], 0) + (kept.tells != ahead)
        self.assertEqual(len(moved), 4)
        self.assertGreater(min(moved.values()), 50)

    def test_changes_of_several_keys(self):
        for chance in chances(150):
            schema, state, view = drawn(chance)
            kept = Kept(schema, state, view)
            for _ in range(6):
                some = tuple((key, any_rows(chance, schema)) for key in chance.sample(KEYS, chance.randint(0, 8)))
                for key, rows in some:
                    state = with_key_rows(schema, state, key, rows)
                self.assertIsNone(kept.changes(some))
                self.is_at(kept, schema, state, view)

    def test_there_and_back(self):
        for chance in chances(150):
            schema, state, view = drawn(chance)
            kept, other = Kept(schema, state, view), Kept(schema, state, view)
            some = [(key, any_rows(chance, schema)) for key in KEYS]
            for key, rows in chance.sample(some, 5):
                ahead = kept.rows(key)
                kept.change(key, rows)
                kept.change(key, ahead)
                self.assertTrue(kept == other)
                self.same(kept.tells, other.tells)
            kept.changes(tuple(some))
            kept.changes(tuple((key, key_rows(state, key)) for key in KEYS))
            self.is_at(kept, schema, state, view)
            self.assertTrue(kept == other)

    def test_in_any_sequence(self):
        for chance in chances(150):
            schema, state, view = drawn(chance)
            some = [(key, any_rows(chance, schema)) for key in chance.sample(KEYS, 5)]
            one, two, three = (Kept(schema, state, view) for _ in range(3))
            one.changes(tuple(some))
            for key, rows in some[::-1]:
                two.change(key, rows)
            for key, rows in chance.sample(some, 5):
                three.change(key, rows)
            self.assertTrue(one == two and two == three)
            self.same(one.tells, two.tells)
            self.same(two.tells, three.tells)

    def test_the_second_table_of_a_pair(self):
        kept = Kept(SCHEMA, STATE, PAIR)
        kept.change(9, (("goods", ("salt", 1)), ("sold", None)))
        self.same(kept.tells, ((3, (1, 10), ("ham", 5)), (4, (9, 1), ("salt", 1))))
        kept.change(9, (("goods", ("salt", 2)), ("sold", (9, None))))
        self.same(kept.tells, ((3, (1, 10), ("ham", 5)), (4, (9, 1), ("salt", 2)), (9, (9, None), ("salt", 2))))
        kept.change(9, NO_ROWS)
        self.same(kept.tells, ((3, (1, 10), ("ham", 5)), (4, (9, 1), (None, None))))
        kept.change(1, (("goods", None), ("sold", (1, 1))))
        self.same(kept.tells, ((1, (1, 1), (None, None)), (3, (1, 10), (None, None)), (4, (9, 1), (None, None))))

    def test_a_pair_of_one_table(self):
        schema = (("a", (("x", "int"),)),)
        kept = Kept(schema, (("a", ()),), ("pair", "a", "x", "a"))
        kept.change(1, (("a", (2,)),))
        self.same(kept.tells, ((1, (2,), (None,)),))
        kept.change(2, (("a", (2,)),))
        self.same(kept.tells, ((1, (2,), (2,)), (2, (2,), (2,))))
        kept.change(2, (("a", (1,)),))
        self.same(kept.tells, ((1, (2,), (1,)), (2, (1,), (2,))))
        kept.change(2, (("a", None),))
        self.same(kept.tells, ((1, (2,), (None,)),))

    def test_groups_come_and_go(self):
        kept = Kept(SCHEMA, STATE, TOTAL)
        self.same(kept.tells, ((1, 10), (9, 1)))
        kept.change(5, (("goods", None), ("sold", (9, -1))))
        self.same(kept.tells, ((1, 10), (9, 0)))
        kept.change(4, NO_ROWS)
        kept.change(3, (("goods", None), ("sold", (None, 10))))
        self.same(kept.tells, ((None, 10), (9, -1)))
        kept.changes(((5, NO_ROWS), (3, NO_ROWS)))
        self.same(kept.tells, ())
        kept.change(7, (("goods", None), ("sold", (0, None))))
        self.same(kept.tells, ((0, 0),))

    def test_what_the_view_is_not_told_of(self):
        kept = Kept(SCHEMA, STATE, TOTAL)
        kept.change(3, (("goods", ("x", None)), ("sold", (1, 10))))
        self.same((kept.tells, kept.rows(3)), (((1, 10), (9, 1)), (("goods", ("x", None)), ("sold", (1, 10)))))
        self.assertFalse(kept == Kept(SCHEMA, STATE, TOTAL))


class Equal(Case):

    def test_equal_and_unlike(self):
        kept = Kept(SCHEMA, STATE, PAIR)
        self.assertTrue(kept == Kept(SCHEMA, STATE, PAIR))
        for other in (*ANYTHING, PAIR, kept.tells, Kept(SCHEMA, STATE, TOTAL), Kept(SCHEMA, empty_state(SCHEMA), PAIR)):
            self.assertFalse(kept == other)
            self.assertTrue(kept != other)
        schema = (*SCHEMA, ("x", ()))
        self.assertFalse(Kept(schema, (*STATE, ("x", ())), PAIR) == kept)
        other = Kept(schema, (*STATE, ("x", ())), PAIR)
        other.change(6, (*NO_ROWS, ("x", ())))
        self.assertFalse(other == Kept(schema, (*STATE, ("x", ())), PAIR))
        self.same(other.tells, kept.tells)

    def test_two_that_tell_alike_of_other_rows(self):
        schema = (("a", (("x", "int"),)),)
        one, two = (Kept(schema, (("a", ((key, (5,)),)),), ("count", "a", "x")) for key in (1, 2))
        self.same(one.tells, two.tells)
        self.assertFalse(one == two)
        two.changes(((2, (("a", None),)), (1, (("a", (5,)),))))
        self.assertTrue(one == two)

    def test_two_of_other_schemas_without_rows(self):
        one, two = (Kept((("a", columns),), (("a", ()),), ("count", "a", "x")) for columns in ((("x", "int"),), (("x", "int"), ("y", "int"))))
        self.same((one.tells, one.view), (two.tells, two.view))
        self.assertFalse(one == two)

    def test_two_of_one_state_change_each_for_itself(self):
        one, two = Kept(SCHEMA, STATE, PAIR), Kept(SCHEMA, STATE, PAIR)
        one.change(3, NO_ROWS)
        self.same(two.tells, viewed(SCHEMA, STATE, PAIR))
        self.assertFalse(one == two)


class Refused(Case):

    def test_of_what_none_is_made(self):
        for value in ANYTHING:
            if value != ():
                self.refused_with(BadSchema, value, Kept, value, value, value)
            self.refused_with(BadState, value, Kept, SCHEMA, value, value)
            self.refused_with(BadView, value, Kept, SCHEMA, STATE, value)
        for view in (*NO_VIEWS, ("count", "sold", "name"), ("count", "cats", "what"), ("pair", "goods", "name", "sold")):
            self.refused_with(BadView, view, Kept, SCHEMA, STATE, view)
        self.refused_with(BadState, STATE, Kept, SCHEMA[:1], STATE, PAIR)

    def is_as_it_was(self, kept, view):
        self.same(kept.tells, viewed(SCHEMA, STATE, view))
        for key in (*KEYS, 6, 7):
            self.same(kept.rows(key), key_rows(STATE, key))
        self.assertTrue(kept == Kept(SCHEMA, STATE, view))

    def test_what_is_no_key_or_no_rows(self):
        good = (("goods", ("x", 1)), ("sold", (1, 1)))
        bad_rows = (
            *ANYTHING, good[:1], good[::-1], (*good, *good), list(good), (("goods", ["x", 1]), ("sold", None)),
            (("goods", ("x",)), ("sold", None)), (("goods", (1, 1)), ("sold", None)), (("goods", ("x", True)), ("sold", None)),
            (("goods", ("x", "1")), ("sold", None)), (("goods", None), ["sold", None]), (("goods", None), ("sold", ())),
            (("goods", None), ("sold",)), (("goods", None), ("sold", None, None)), (("goods", None), ("cats", None)),
            (("goods", ("a b", 1)), ("sold", None)), (("goods", False), ("sold", None)),
        )
        for view in VIEWS:
            kept = Kept(SCHEMA, STATE, view)
            for key in (*[value for value in ANYTHING if type(value) is not int or value < 1 or value > 999999], 0, -1, 1000000):
                self.refused_with(BadKey, key, kept.rows, key)
                self.refused_with(BadKey, key, kept.change, key, good)
                self.refused_with(BadKey, key, kept.change, key, [])
                self.refused_with(BadKey, key, kept.changes, ((5, good), (key, good)))
            for rows in bad_rows:
                self.refused_with(BadRows, rows, kept.change, 5, rows)
                self.refused_with(BadRows, rows, kept.changes, ((3, NO_ROWS), (5, rows)))
                self.is_as_it_was(kept, view)

    def test_what_are_no_changes(self):
        for view in VIEWS:
            kept = Kept(SCHEMA, STATE, view)
            for some in (
                *[value for value in ANYTHING if value != ()], ((3, NO_ROWS), (3, NO_ROWS)), [(3, NO_ROWS)], ((3, NO_ROWS), [4, NO_ROWS]),
                ((3,),), ((3, NO_ROWS, 1),), (3, NO_ROWS), ((3, NO_ROWS), (4, NO_ROWS), (3, 0)), ((0, 1), (0, 2)), (([], 1), ([], 2)),
                ((True, 1), (True, 1)), (((1, [True]), 1), ((1, [True]), 1)), (("a", NO_ROWS), (3, NO_ROWS), ("a", NO_ROWS)),
            ):
                self.refused_with(BadChanges, some, kept.changes, some)
                self.is_as_it_was(kept, view)

    def test_the_first_part_of_which_something_is_due(self):
        kept = Kept(SCHEMA, STATE, PAIR)
        for some, error, value in (
            (((3, NO_ROWS), (0, 1), (4, 1)), BadKey, 0), (((3, NO_ROWS), (4, 1), (0, 1)), BadRows, 1),
            (((1, NO_ROWS), (True, NO_ROWS)), BadKey, True), (((True, NO_ROWS), (1, NO_ROWS)), BadKey, True),
            (((0, NO_ROWS), (False, NO_ROWS)), BadKey, 0), (((True, 1), (False, 2)), BadKey, True),
            ((((1,), 1), ((True,), 2)), BadKey, (1,)), (((("a", [1]), 1), (("a", [True]), 2)), BadKey, ("a", [1])),
            ((([1], 1), ((1,), 2)), BadKey, [1]), (((1000000, 1), (1000001, 1)), BadKey, 1000000),
            (((7, NO_ROWS), (8, ()), (9, [])), BadRows, ()), (((0, 1), ([], 2)), BadKey, 0), ((([], 1), (0, 2)), BadKey, []),
            ((((), 1), ("", 2), (None, 3)), BadKey, ()), ((("", 1), ((), 2)), BadKey, ""), ((((1, 2), 1), ((1,), 2)), BadKey, (1, 2)),
        ):
            self.refused(error, value, kept.changes, some)
            self.is_as_it_was(kept, PAIR)

    def test_no_changes_at_all(self):
        for view in VIEWS:
            kept = Kept(SCHEMA, STATE, view)
            self.assertIsNone(kept.changes(()))
            self.is_as_it_was(kept, view)

    def test_by_name_and_twice(self):
        kept = Kept(view=PAIR, state=STATE, schema=SCHEMA)
        for _ in range(2):
            self.same(kept.rows(key=1), (("goods", ("ham", 5)), ("sold", None)))
            self.assertIsNone(kept.change(rows=NO_ROWS, key=1))
            self.same(kept.tells, ((3, (1, 10), (None, None)), (4, (9, 1), (None, None))))
            self.assertIsNone(kept.changes(some=((1, (("goods", ("ham", 5)), ("sold", None))),)))
            self.is_as_it_was(kept, PAIR)

    def test_nothing_that_was_handed_in_is_altered(self):
        for chance in chances(50):
            schema = (*SCHEMA, ("x", ()))
            state = any_state(chance, schema)
            some = tuple((key, any_rows(chance, schema)) for key in KEYS)
            ahead = repr((schema, state, some))
            kept = Kept(schema, state, PAIR)
            kept.changes(some)
            kept.change(3, some[0][1])
            self.assertEqual(repr((schema, state, some)), ahead)
            self.same([kept.rows(key) for key in KEYS if key != 3], [rows for key, rows in some if key != 3])
            self.assertFalse(set(keys_of(state)) - {key for key in range(1, 10) if kept.rows(key)} - {3})
