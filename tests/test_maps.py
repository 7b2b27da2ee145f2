"""Section 6: maps of states, there and back, key by key."""

from models import WORDS, aimed_step, can_stand, model_back, model_of, model_there, state_of
from samples import ANYTHING, Case, NO_STEPS, STEP_TEXTS, any_schema, any_state, chances
from toldmoment.errors import (
    BadKind, BadRows, BadSchema, BadState, BadStep, BadValue, Full, MomentError, NoColumn, NoTable, There,
)
from toldmoment.forms import is_step
from toldmoment.maps import back, forward, rows_back, rows_forward, undoes
from toldmoment.schemas import stepped
from toldmoment.states import fits, key_rows, keys_of

A, B = ("a", (("x", "int"), ("y", "text"))), ("b", (("z", "text"),))
SCHEMA = (A, B)
ROWS_A = ((1, (5, "u")), (2, (None, None)), (9, (-7, "")))
ROWS_B = ((2, ("v",)), (3, (None,)), (999999, ("",)))
STATE = (("a", ROWS_A), ("b", ROWS_B))


def texts_of(*values):
    """A state of one table t with one text column c."""
    return (("t", tuple((key, (value,)) for key, value in enumerate(values, 1))),)


TEXT, INT = (("t", (("c", "text"),)),), (("t", (("c", "int"),)),)


def any_case(chance):
    """A schema, a step that can be done on it, a state of it, and one of the schema behind."""
    while True:
        schema = any_schema(chance, 4)
        step = aimed_step(chance, schema, chance.choice(WORDS))
        if is_step(step) and can_stand(schema, step):
            return schema, step, any_state(chance, schema), any_state(chance, stepped(schema, step))


class ThereAndBack(Case):

    def there(self, step, *tables):
        self.same(forward(SCHEMA, step, STATE), tables)

    def back(self, step, state, *tables):
        self.same(back(SCHEMA, step, state), tables)

    def test_make(self):
        step = ("make", "ab", (("p", "int"),))
        self.there(step, ("a", ROWS_A), ("ab", ()), ("b", ROWS_B))
        self.back(step, (("a", ROWS_A), ("ab", ((4, (1,)),)), ("b", ())), ("a", ROWS_A), ("b", ()))
        self.same(forward((), ("make", "a", ()), ()), (("a", ()),))
        self.same(back((), ("make", "a", ()), (("a", ((1, ()),)),)), ())

    def test_gone(self):
        self.there(("gone", "a"), ("b", ROWS_B))
        self.there(("gone", "b"), ("a", ROWS_A))
        self.back(("gone", "a"), (("b", ROWS_B),), ("a", ()), ("b", ROWS_B))
        self.back(("gone", "b"), (("a", ROWS_A),), ("a", ROWS_A), ("b", ()))

    def test_call(self):
        self.there(("call", "a", "c"), ("b", ROWS_B), ("c", ROWS_A))
        self.there(("call", "b", "aa"), ("a", ROWS_A), ("aa", ROWS_B))
        self.back(("call", "a", "c"), (("b", ROWS_B), ("c", ROWS_A[:1])), ("a", ROWS_A[:1]), ("b", ROWS_B))

    def test_add(self):
        step = ("add", "a", "w", "text", "n")
        behind = tuple((key, (*values, "n")) for key, values in ROWS_A)
        self.there(step, ("a", behind), ("b", ROWS_B))
        self.there(("add", "b", "x", "int", None), ("a", ROWS_A),
                   ("b", tuple((key, (*values, None)) for key, values in ROWS_B)))
        self.back(step, (("a", ((1, (5, "u", "q")), (4, (None, None, None)))), ("b", ROWS_B)),
                  ("a", ((1, (5, "u")), (4, (None, None)))), ("b", ROWS_B))

    def test_cut(self):
        for column, value, at in (("x", 6, 0), ("x", None, 0), ("y", "q", 1), ("y", None, 1)):
            step = ("cut", "a", column, value)
            self.there(step, ("a", tuple((key, (values[1 - at],)) for key, values in ROWS_A)), ("b", ROWS_B))
            left = tuple((key, (values[1 - at],)) for key, values in ROWS_A)
            again = tuple((key, (value, values[1]) if at == 0 else (values[0], value)) for key, values in ROWS_A)
            self.back(step, (("a", left), ("b", ROWS_B)), ("a", again), ("b", ROWS_B))
        self.there(("cut", "b", "z", None), ("a", ROWS_A), ("b", tuple((key, ()) for key, _ in ROWS_B)))
        self.back(("cut", "b", "z", "w"), (("a", ()), ("b", ((4, ()), (8, ())))), ("a", ()),
                  ("b", ((4, ("w",)), (8, ("w",)))))

    def test_cut_and_split_in_the_middle(self):
        schema = (("t", (("p", "int"), ("q", "text"), ("r", "int"))),)
        state = (("t", ((1, (1, "a-b", 3)), (2, (None, None, None)))),)
        self.same(forward(schema, ("cut", "t", "q", "n"), state), (("t", ((1, (1, 3)), (2, (None, None)))),))
        self.same(back(schema, ("cut", "t", "q", "n"), (("t", ((1, (1, 3)),)),)), (("t", ((1, (1, "n", 3)),)),))
        split = ("split", "t", "q", "s", "q", "-")
        self.same(forward(schema, split, state), (("t", ((1, (1, "a", "b", 3)), (2, (None,) * 4))),))
        self.same(back(schema, split, (("t", ((1, (7, "a", "b", 8)),)),)), (("t", ((1, (7, "a-b", 8)),)),))
        turn = ("turn", "t", "r", "text", None, None)
        self.same(forward(schema, turn, state), (("t", ((1, (1, "a-b", "3")), (2, (None, None, None)))),))

    def test_name(self):
        self.there(("name", "a", "x", "w"), *STATE)
        self.back(("name", "a", "x", "w"), STATE, *STATE)
        self.there(("name", "b", "z", "x"), *STATE)

    def test_turn_to_text_turns_every_integer(self):
        step = ("turn", "t", "c", "text", "x", 4)
        self.same(forward(INT, step, texts_of(0, 5, -7, None, 10, 99999999999, -99999999999)),
                  texts_of("0", "5", "-7", None, "10", "99999999999", "-99999999999"))

    def test_a_text_is_turned_if_python_writes_an_integer_so(self):
        good = ("0", "5", "-7", None, "10", "99999999999", "-99999999999", "-1")
        wanted = (0, 5, -7, None, 10, 99999999999, -99999999999, -1)
        bad = ("05", "+5", "-0", "-05", "", "-", "--5", "5-", "1.0", "1_0", "x", "0x1", "123456789012", "-", "00", "~",
               "99999999999-", "1e3", "'5", "none")
        to_int, to_text = ("turn", "t", "c", "int", 3, "o"), ("turn", "t", "c", "text", "o", 3)
        self.same(forward(TEXT, to_int, texts_of(*good)), texts_of(*wanted))
        self.same(back(INT, to_text, texts_of(*good)), texts_of(*wanted))
        self.same(forward(TEXT, to_int, texts_of(*bad)), texts_of(*[3] * len(bad)))
        self.same(back(INT, to_text, texts_of(*bad)), texts_of(*[3] * len(bad)))
        for value in (None, 0, -99999999999):
            self.same(forward(TEXT, ("turn", "t", "c", "int", value, "o"), texts_of("x", "5", None)), texts_of(value, 5, None))
            self.same(back(INT, ("turn", "t", "c", "text", "o", value), texts_of("x", "5", None)), texts_of(value, 5, None))

    def test_a_turn_to_int_is_turned_back_to_text(self):
        self.same(back(TEXT, ("turn", "t", "c", "int", 3, "o"), texts_of(0, 5, None, -99999999999)),
                  texts_of("0", "5", None, "-99999999999"))

    def test_split(self):
        schema = (("t", (("p", "text"), ("q", "text"))),)
        for text, first, second in (
            ("a-b", "a", "b"), ("-", "", ""), ("-b", "", "b"), ("a-", "a", ""), ("a-b-c", "a", "b-c"), ("--", "", "-"),
            ("ab", "ab", None), ("", "", None), (None, None, None), ("abcdef-ghijk", "abcdef", "ghijk"),
            ("abcdefghijk-", "abcdefghijk", ""), ("-abcdefghijk", "", "abcdefghijk"), ("abcdefghijkl", "abcdefghijkl", None),
            ("a'b;c", "a'b;c", None),
        ):
            with self.subTest(text):
                self.same(forward(TEXT, ("split", "t", "c", "p", "q", "-"), texts_of(text)), (("t", ((1, (first, second)),)),))
                self.same(back(TEXT, ("split", "t", "c", "p", "q", "-"), (("t", ((1, (first, second)),)),)), texts_of(text))
        self.assertIs(fits(schema, forward(TEXT, ("split", "t", "c", "p", "q", "~"), texts_of("~", None))), True)

    def test_split_back_of_what_no_split_tells(self):
        for first, second, text in (
            (None, "x", "-x"), (None, "", "-"), ("a-b", "c", "a-b-c"), ("a-b", None, "a-b"), ("", "", "-"),
            ("abcdefghijkl", "mno", "abcdefghijkl"), ("abcdefghijk", "mno", "abcdefghijk-"), ("abcdef", "ghijkl", "abcdef-ghijk"),
            ("abcdefghijkl", None, "abcdefghijkl"), (None, "abcdefghijkl", "-abcdefghijk"), ("abc", "-d", "abc--d"),
        ):
            with self.subTest((first, second)):
                self.same(back(TEXT, ("split", "t", "c", "c", "q", "-"), (("t", ((1, (first, second)),)),)), texts_of(text))

    def test_part(self):
        schema = (("t", (("p", "int"), ("q", "text"), ("r", "int"))),)
        state = (("t", ((1, (1, "a", 3)), (2, (None, None, None)), (5, (4, "b", None)))),)
        for names, ones, others in ((("r", "p"), (0, 2), (1,)), ((), (), (0, 1, 2)), (("p", "q", "r"), (0, 1, 2), ()),
                                    (("q",), (1,), (0, 2))):
            step = ("part", "t", "u", names, "t")
            behind = (("t", tuple((key, tuple(values[at] for at in others)) for key, values in state[0][1])),
                      ("u", tuple((key, tuple(values[at] for at in ones)) for key, values in state[0][1])))
            with self.subTest(names):
                self.same(forward(schema, step, state), behind)
                self.same(back(schema, step, behind), state)
        step = ("part", "t", "u", ("r", "p"), "v")
        self.same(back(schema, step, (("u", ((1, (7, 8)), (3, (None, 9)))), ("v", ((1, ("k",)), (2, ("l",)))))),
                  (("t", ((1, (7, "k", 8)), (2, (None, "l", None)), (3, (None, None, 9)))),))
        self.same(back(schema, step, (("u", ()), ("v", ()))), (("t", ()),))
        taken = ("part", "t", "t", ("q",), "a")
        self.same(forward(schema, taken, state)[1], ("t", ((1, ("a",)), (2, (None,)), (5, ("b",)))))
        self.same(back(schema, taken, forward(schema, taken, state)), state)

    def test_unite(self):
        whole = ((1, (5, "u", None)), (2, (None, None, "v")), (3, (None, None, None)), (9, (-7, "", None)),
                 (999999, (None, None, "")))
        for table in ("c", "a", "b"):
            step = ("unite", "a", "b", table)
            with self.subTest(table):
                self.there(step, (table, whole))
                self.back(step, ((table, ((1, (5, "u", None)), (4, (None, None, "q")))),),
                          ("a", ((1, (5, "u")), (4, (None, None)))), ("b", ((1, (None,)), (4, ("q",)))))
        turned = (999999, ("", None, None))
        self.same(forward(SCHEMA, ("unite", "b", "a", "b"), STATE)[0][1][-1], turned)
        self.same(back(SCHEMA, ("unite", "b", "a", "b"), (("b", (turned,)),)),
                  (("a", ((999999, (None, None)),)), ("b", ((999999, ("",)),))))

    def test_tables_without_columns(self):
        schema = (("a", ()), ("b", ()))
        state = (("a", ((1, ()), (2, ()))), ("b", ((2, ()), (3, ()))))
        self.same(forward(schema, ("unite", "a", "b", "c"), state), (("c", ((1, ()), (2, ()), (3, ()))),))
        self.same(back(schema, ("unite", "a", "b", "c"), (("c", ((4, ()),)),)), (("a", ((4, ()),)), ("b", ((4, ()),))))
        self.same(forward(schema, ("part", "a", "c", (), "d"), state),
                  (("b", state[1][1]), ("c", state[0][1]), ("d", state[0][1])))

    def test_other_tables_stay_as_they_are(self):
        for step in (("call", "a", "q"), ("add", "a", "q", "int", 1), ("turn", "a", "x", "text", None, 1), ("gone", "a"),
                     ("split", "a", "y", "y", "q", "-"), ("part", "a", "a", ("y",), "q"), ("cut", "a", "y", "")):
            with self.subTest(step):
                self.same(dict(forward(SCHEMA, step, STATE))["b"], ROWS_B)
                self.same(dict(back(SCHEMA, step, forward(SCHEMA, step, STATE)))["b"], ROWS_B)


class Keys(Case):

    def test_rows_of_one_key(self):
        for step, ahead, behind in (
            (("make", "c", ()), (("a", None), ("b", ("v",))), (("a", None), ("b", ("v",)), ("c", None))),
            (("gone", "a"), (("a", (5, "u")), ("b", None)), (("b", None),)),
            (("add", "a", "w", "int", 4), (("a", (5, "u")), ("b", None)), (("a", (5, "u", 4)), ("b", None))),
            (("add", "a", "w", "int", 4), (("a", None), ("b", None)), (("a", None), ("b", None))),
            (("unite", "a", "b", "b"), (("a", None), ("b", ("v",))), (("b", (None, None, "v")),)),
            (("unite", "a", "b", "b"), (("a", None), ("b", None)), (("b", None),)),
            (("part", "a", "c", ("y",), "d"), (("a", (5, "u")), ("b", None)), (("b", None), ("c", ("u",)), ("d", (5,)))),
            (("part", "a", "c", ("y",), "d"), (("a", None), ("b", None)), (("b", None), ("c", None), ("d", None))),
        ):
            with self.subTest(step):
                self.same(rows_forward(SCHEMA, step, ahead), behind)
        for step, behind, ahead in (
            (("make", "c", ()), (("a", None), ("b", ("v",)), ("c", ())), (("a", None), ("b", ("v",)))),
            (("gone", "a"), (("b", None),), (("a", None), ("b", None))),
            (("cut", "a", "x", 4), (("a", ("u",)), ("b", None)), (("a", (4, "u")), ("b", None))),
            (("cut", "a", "x", 4), (("a", None), ("b", None)), (("a", None), ("b", None))),
            (("unite", "a", "b", "c"), (("c", (1, None, "v")),), (("a", (1, None)), ("b", ("v",)))),
            (("unite", "a", "b", "c"), (("c", None),), (("a", None), ("b", None))),
            (("part", "a", "c", ("y",), "d"), (("b", None), ("c", ("u",)), ("d", None)), (("a", (None, "u")), ("b", None))),
            (("part", "a", "c", ("y",), "d"), (("b", None), ("c", None), ("d", None)), (("a", None), ("b", None))),
        ):
            with self.subTest(step):
                self.same(rows_back(SCHEMA, step, behind), ahead)

    def test_whole_states_are_led_as_their_keys_are(self):
        for chance in chances(600):
            schema, step, state, later = any_case(chance)
            behind = stepped(schema, step)
            led, elder = forward(schema, step, state), back(schema, step, later)
            self.assertIs(fits(behind, led), True)
            self.assertIs(fits(schema, elder), True)
            self.same(led, state_of(behind, model_there(schema, step, model_of(schema, state))))
            self.same(elder, state_of(schema, model_back(schema, step, model_of(behind, later))))
            for key in (*keys_of(state), *keys_of(later), 77):
                self.same(rows_forward(schema, step, key_rows(state, key)), key_rows(led, key))
                self.same(rows_back(schema, step, key_rows(later, key)), key_rows(elder, key))

    def test_what_a_key_has_behind_hangs_on_what_it_had_ahead_alone(self):
        for chance in chances(200):
            schema, step, state, later = any_case(chance)
            led, elder = forward(schema, step, state), back(schema, step, later)
            for key in keys_of(state):
                alone = tuple((table, tuple(row for row in rows if row[0] == key)) for table, rows in state)
                self.same(forward(schema, step, alone),
                          tuple((table, tuple(row for row in rows if row[0] == key)) for table, rows in led))
            for key in keys_of(later):
                alone = tuple((table, tuple(row for row in rows if row[0] == key)) for table, rows in later)
                self.same(back(schema, step, alone),
                          tuple((table, tuple(row for row in rows if row[0] == key)) for table, rows in elder))


class Undoes(Case):

    def test_each_form(self):
        wanted = {"make": "there", "gone": "back", "call": "both", "add": "there", "cut": "back", "name": "both",
                  "split": "there", "part": "there", "unite": "back"}
        for step, _ in STEP_TEXTS:
            with self.subTest(step):
                turn = {"text": "there", "int": "back"}[step[3]] if step[0] == "turn" else None
                self.same(undoes(step), (wanted.get(step[0], turn),))
        self.same(undoes(("turn", "a", "b", "text", None, None)), ("there",))
        self.same(undoes(("turn", "a", "b", "int", None, None)), ("back",))

    def test_held_against_states(self):
        lost = {}
        for chance in chances(1500):
            schema, step, state, later = any_case(chance)
            there = back(schema, step, forward(schema, step, state)) == state
            again = forward(schema, step, back(schema, step, later)) == later
            told = undoes(step)[0]
            if told in ("both", "there"):
                self.assertTrue(there, (schema, step, state))
            if told in ("both", "back"):
                self.assertTrue(again, (schema, step, later))
            word = step[0] + (step[3] if step[0] == "turn" else "")
            lost.setdefault(word, {"there": False, "back": False})
            lost[word]["there"] |= not there
            lost[word]["back"] |= not again
        none, there, back_ = ({"there": False, "back": False}, {"there": False, "back": True}, {"there": True, "back": False})
        self.assertEqual(lost, {
            "make": there, "gone": back_, "call": none, "add": there, "cut": back_, "name": none, "turntext": there,
            "turnint": back_, "split": there, "part": there, "unite": back_,
        })

    def test_what_is_no_step(self):
        for step in (*NO_STEPS, *ANYTHING):
            with self.subTest(repr(step)):
                self.refused_with(BadStep, step, undoes, step)


class Refused(Case):

    NONE = (("a", None), ("b", None))

    def test_schema_then_step_then_what_the_table_tells_then_the_last(self):
        for function, last in ((forward, STATE), (back, STATE), (rows_forward, self.NONE), (rows_back, self.NONE)):
            for schema in (None, list(SCHEMA), SCHEMA[::-1], True, (["a", ()],)):
                self.refused_with(BadSchema, schema, function, schema, None, None)
                self.refused_with(BadSchema, schema, function, schema, ("gone", "a"), last)
            for step in (*NO_STEPS, *ANYTHING):
                with self.subTest(repr(step)):
                    self.refused_with(BadStep, step, function, SCHEMA, step, None)
            for step, error, value in (
                (("make", "a", ()), There, "a"), (("gone", "c"), NoTable, "c"), (("call", "c", "a"), NoTable, "c"),
                (("call", "a", "b"), There, "b"), (("add", "a", "x", "int", 1), There, "x"), (("cut", "a", "z", 1), NoColumn, "z"),
                (("cut", "a", "x", "1"), BadValue, "1"), (("name", "a", "x", "y"), There, "y"),
                (("turn", "a", "x", "int", 1, "1"), BadKind, "x"), (("split", "a", "x", "p", "q", "-"), BadKind, "x"),
                (("split", "a", "y", "x", "q", "-"), There, "x"), (("part", "a", "c", ("z",), "d"), NoColumn, "z"),
                (("part", "a", "b", (), "d"), There, "b"), (("unite", "a", "c", "d"), NoTable, "c"),
            ):
                with self.subTest(step):
                    self.refused(error, value, function, SCHEMA, step, None)
                    self.refused(error, value, function, SCHEMA, step, last)
            full = tuple((name, ()) for name in "abcdef")
            self.refused(Full, 6, function, full, ("make", "g", ()), None)

    def test_states_that_are_none_of_the_schema_they_are_led_from(self):
        step = ("add", "a", "w", "int", 1)
        behind = forward(SCHEMA, step, STATE)
        wrong = (*ANYTHING, STATE[:1], STATE[::-1], list(STATE), (*STATE, ("c", ())), (("a", ROWS_A[::-1]), ("b", ())),
                 (("a", ((1, ("u", 5)),)), ("b", ())), (("a", ((0, (5, "u")),)), ("b", ())),
                 (("a", ((True, (5, "u")),)), ("b", ())), (("a", ((1, (True, "u")),)), ("b", ())), (["a", ROWS_A], ("b", ())))
        for state in (*wrong, behind):
            with self.subTest(repr(state)):
                self.refused_with(BadState, state, forward, SCHEMA, step, state)
        for state in (*wrong, STATE):
            with self.subTest(repr(state)):
                self.refused_with(BadState, state, back, SCHEMA, step, state)
        self.same(back(SCHEMA, step, behind), STATE)

    def test_rows_that_do_not_tell_what_one_key_has(self):
        step = ("add", "a", "w", "int", 1)
        ahead, behind = (("a", (5, "u")), ("b", ("v",))), (("a", (5, "u", 1)), ("b", ("v",)))
        wrong = (*ANYTHING, (), ahead[:1], ahead[::-1], list(ahead), (*ahead, ("c", None)), (("a", ()), ("b", None)),
                 (("a", ("u", 5)), ("b", None)), (("a", [5, "u"]), ("b", None)), (["a", None], ("b", None)),
                 (("a", ROWS_A), ("b", None)), (("a", False), ("b", None)), (("a", (True, "u")), ("b", None)), STATE,
                 (("a",), ("b", None)), (("a", None, None), ("b", None)))
        for rows in (*wrong, behind):
            with self.subTest(repr(rows)):
                self.refused_with(BadRows, rows, rows_forward, SCHEMA, step, rows)
        for rows in (*wrong, ahead):
            with self.subTest(repr(rows)):
                self.refused_with(BadRows, rows, rows_back, SCHEMA, step, rows)
        self.same(rows_forward(SCHEMA, step, ahead), behind)
        self.same(rows_back(SCHEMA, step, behind), ahead)

    def test_by_name_and_nothing_is_altered(self):
        step = ("call", "a", "c")
        self.same(forward(state=STATE, step=step, schema=SCHEMA), (("b", ROWS_B), ("c", ROWS_A)))
        self.same(back(state=(("b", ROWS_B), ("c", ROWS_A)), step=step, schema=SCHEMA), STATE)
        self.same(rows_forward(rows=self.NONE, step=step, schema=SCHEMA), (("b", None), ("c", None)))
        self.same(rows_back(rows=(("b", None), ("c", None)), step=step, schema=SCHEMA), self.NONE)
        self.same(undoes(step=step), ("both",))
        rows = [["a", None], ["b", None]]
        for function in (forward, back, rows_forward, rows_back):
            for args in ((rows, step, STATE), (SCHEMA, ["call", "a", "c"], STATE), (SCHEMA, step, rows), (SCHEMA, step, (rows,))):
                with self.assertRaises(MomentError):
                    function(*args)
        self.assertEqual(rows, [["a", None], ["b", None]])
