"""Section 4: the schema behind a step, and what is refused, in its sequence."""

from samples import ANYTHING, Case, NO_STEPS, STEP_TEXTS, any_schema, any_step, chances
from toldmoment.errors import (
    BadKind, BadSchema, BadStep, BadValue, Full, MomentError, NoColumn, NoTable, There,
)
from toldmoment.schemas import stepped
from toldmoment.states import empty_state

SIX = tuple((name, "int") for name in "uvwxyz")
GOODS = ("goods", (("name", "text"), ("price", "int"), ("note", "text")))
SOLD = ("sold", (("what", "int"), ("many", "int")))
SHOP = (GOODS, SOLD)
FULL = (*((name, ()) for name in "abcde"), GOODS)
WIDE = (("wide", (("note", "text"), *SIX[:5])),)


def columns(*words):
    """Columns of words like `name text`."""
    return tuple(tuple(word.split(" ")) for word in words)


class Behind(Case):

    def behind(self, step, *tables):
        self.same(stepped(SHOP, step), tables)

    def test_make(self):
        self.behind(("make", "a", columns("z int", "y text")), ("a", columns("z int", "y text")), *SHOP)
        self.behind(("make", "mid", ()), GOODS, ("mid", ()), SOLD)
        self.behind(("make", "z", SIX), GOODS, SOLD, ("z", SIX))
        self.same(stepped(FULL[1:], ("make", "a", ())), FULL)

    def test_gone(self):
        self.behind(("gone", "goods"), SOLD)
        self.behind(("gone", "sold"), GOODS)
        self.same(stepped((SOLD,), ("gone", "sold")), ())
        self.same(stepped(FULL, ("gone", "a")), FULL[1:])
        self.same(stepped((("a", ()), ("gone", ())), ("gone", "a")), (("gone", ()),))

    def test_call(self):
        self.behind(("call", "goods", "wares"), SOLD, ("wares", GOODS[1]))
        self.behind(("call", "sold", "a"), ("a", SOLD[1]), GOODS)
        self.same(stepped(FULL, ("call", "a", "z")), (*FULL[1:], ("z", ())))

    def test_add(self):
        self.behind(("add", "goods", "a", "int", 5), ("goods", (*GOODS[1], ("a", "int"))), SOLD)
        self.behind(("add", "sold", "price", "text", None), GOODS, ("sold", (*SOLD[1], ("price", "text"))))
        self.same(stepped((("a", SIX[:5]),), ("add", "a", "z", "int", None)), (("a", SIX),))
        self.same(stepped((("a", ()),), ("add", "a", "a", "text", "")), (("a", columns("a text")),))

    def test_cut(self):
        self.behind(("cut", "goods", "name", "x"), ("goods", columns("price int", "note text")), SOLD)
        self.behind(("cut", "goods", "price", 5), ("goods", columns("name text", "note text")), SOLD)
        self.behind(("cut", "goods", "note", None), ("goods", columns("name text", "price int")), SOLD)
        self.same(stepped((("a", columns("x int")),), ("cut", "a", "x", None)), (("a", ()),))

    def test_name(self):
        self.behind(("name", "goods", "price", "cost"), ("goods", columns("name text", "cost int", "note text")), SOLD)
        self.behind(("name", "goods", "name", "what"), ("goods", columns("what text", "price int", "note text")), SOLD)
        self.behind(("name", "goods", "note", "goods"), ("goods", columns("name text", "price int", "goods text")), SOLD)

    def test_turn(self):
        self.behind(("turn", "goods", "price", "text", "x", 0), ("goods", columns("name text", "price text", "note text")),
                    SOLD)
        self.behind(("turn", "goods", "name", "int", 0, "x"), ("goods", columns("name int", "price int", "note text")), SOLD)
        self.behind(("turn", "goods", "note", "int", None, None), ("goods", columns("name text", "price int", "note int")),
                    SOLD)

    def test_split(self):
        self.behind(("split", "goods", "name", "b", "a", "-"),
                    ("goods", columns("b text", "a text", "price int", "note text")), SOLD)
        self.behind(("split", "goods", "note", "a", "note", "-"),
                    ("goods", columns("name text", "price int", "a text", "note text")), SOLD)
        self.behind(("split", "goods", "note", "note", "b", "-"),
                    ("goods", columns("name text", "price int", "note text", "b text")), SOLD)
        self.behind(("split", "goods", "note", "what", "many", "-"),
                    ("goods", columns("name text", "price int", "what text", "many text")), SOLD)
        five = (("wide", WIDE[0][1][:5]),)
        self.same(stepped(five, ("split", "wide", "note", "a", "b", "-")),
                  (("wide", columns("a text", "b text") + SIX[:4]),))

    def test_part(self):
        self.behind(("part", "goods", "z", ("note", "name"), "a"), ("a", columns("price int")), SOLD,
                    ("z", columns("name text", "note text")))
        self.behind(("part", "goods", "goods", ("price",), "b"), ("b", columns("name text", "note text")),
                    ("goods", columns("price int")), SOLD)
        self.behind(("part", "goods", "costs", ("price",), "goods"), ("costs", columns("price int")),
                    ("goods", columns("name text", "note text")), SOLD)
        self.behind(("part", "goods", "a", (), "b"), ("a", ()), ("b", GOODS[1]), SOLD)
        self.behind(("part", "goods", "a", ("note", "price", "name"), "b"), ("a", GOODS[1]), ("b", ()), SOLD)
        self.same(stepped(FULL[1:], ("part", "goods", "y", (), "z")), (*FULL[1:5], ("y", ()), ("z", GOODS[1])))

    def test_unite(self):
        self.behind(("unite", "goods", "sold", "all"), ("all", GOODS[1] + SOLD[1]))
        self.behind(("unite", "sold", "goods", "goods"), ("goods", SOLD[1] + GOODS[1]))
        self.behind(("unite", "goods", "sold", "sold"), ("sold", GOODS[1] + SOLD[1]))
        self.same(stepped(FULL, ("unite", "b", "a", "b")), (("b", ()), *FULL[2:]))
        self.same(stepped((("a", SIX[:3]), ("b", SIX[3:])), ("unite", "b", "a", "c")), (("c", SIX[3:] + SIX[:3]),))


class Refused(Case):

    def first_of(self, schema, step, error, value):
        """A step that is right by its form raises this."""
        self.refused(error, value, stepped, schema, step)

    def test_the_schema_comes_ahead_of_the_step_and_both_ahead_of_all_else(self):
        for step in NO_STEPS + ANYTHING:
            with self.subTest(repr(step)):
                self.refused_with(BadStep, step, stepped, SHOP, step)
                self.refused_with(BadStep, step, stepped, (), step)
        schema = list(SHOP)
        self.refused_with(BadSchema, schema, stepped, schema, ("gone",))
        self.refused_with(BadSchema, schema, stepped, schema, ("gone", "x"))

    def test_no_table_comes_first(self):
        for step, _ in STEP_TEXTS:
            if step[0] != "make":
                with self.subTest(step):
                    self.first_of((), step, NoTable, "a")
        self.first_of(SHOP, ("call", "cats", "goods"), NoTable, "cats")
        self.first_of(SHOP, ("call", "cats", "cats"), NoTable, "cats")
        self.first_of(WIDE, ("add", "cats", "note", "int", None), NoTable, "cats")
        self.first_of(SHOP, ("cut", "cats", "name", 5), NoTable, "cats")
        self.first_of(SHOP, ("name", "cats", "x", "name"), NoTable, "cats")
        self.first_of(SHOP, ("turn", "cats", "name", "text", None, None), NoTable, "cats")
        self.first_of(SHOP, ("split", "cats", "price", "name", "x", "-"), NoTable, "cats")
        self.first_of(FULL, ("part", "cats", "a", ("x",), "b"), NoTable, "cats")
        self.first_of(SHOP, ("unite", "cats", "dogs", "goods"), NoTable, "cats")
        self.first_of(SHOP, ("unite", "goods", "dogs", "sold"), NoTable, "dogs")
        self.first_of(SHOP, ("unite", "cats", "goods", "cats"), NoTable, "cats")

    def test_make(self):
        self.first_of(SHOP, ("make", "sold", ()), There, "sold")
        self.first_of(FULL, ("make", "goods", ()), There, "goods")
        self.first_of(FULL, ("make", "z", ()), Full, 6)

    def test_call(self):
        self.first_of(SHOP, ("call", "goods", "sold"), There, "sold")
        self.first_of(SHOP, ("call", "goods", "goods"), There, "goods")

    def test_add(self):
        self.first_of(SHOP, ("add", "goods", "price", "int", None), There, "price")
        self.first_of(WIDE, ("add", "wide", "note", "text", None), There, "note")
        self.first_of(WIDE, ("add", "wide", "a", "text", None), Full, 6)

    def test_cut(self):
        self.first_of(SHOP, ("cut", "goods", "what", "x"), NoColumn, "what")
        self.first_of(SHOP, ("cut", "goods", "price", "5"), BadValue, "5")
        self.first_of(SHOP, ("cut", "goods", "price", ""), BadValue, "")
        self.first_of(SHOP, ("cut", "goods", "name", 5), BadValue, 5)
        self.first_of(SHOP, ("cut", "goods", "name", 0), BadValue, 0)

    def test_name(self):
        self.first_of(SHOP, ("name", "goods", "what", "name"), NoColumn, "what")
        self.first_of(SHOP, ("name", "goods", "what", "what"), NoColumn, "what")
        self.first_of(SHOP, ("name", "goods", "name", "price"), There, "price")
        self.first_of(SHOP, ("name", "goods", "name", "name"), There, "name")

    def test_turn(self):
        self.first_of(SHOP, ("turn", "goods", "what", "int", 0, None), NoColumn, "what")
        self.first_of(SHOP, ("turn", "goods", "price", "int", 0, None), BadKind, "price")
        self.first_of(SHOP, ("turn", "goods", "name", "text", None, 0), BadKind, "name")

    def test_split(self):
        self.first_of(SHOP, ("split", "goods", "what", "name", "price", "-"), NoColumn, "what")
        self.first_of(SHOP, ("split", "goods", "price", "name", "note", "-"), BadKind, "price")
        self.first_of(SHOP, ("split", "goods", "name", "note", "price", "-"), There, "note")
        self.first_of(SHOP, ("split", "goods", "name", "price", "note", "-"), There, "price")
        self.first_of(SHOP, ("split", "goods", "name", "name", "note", "-"), There, "note")
        self.first_of(SHOP, ("split", "goods", "name", "a", "price", "-"), There, "price")
        self.first_of(WIDE, ("split", "wide", "u", "v", "w", "-"), BadKind, "u")
        self.first_of(WIDE, ("split", "wide", "note", "u", "v", "-"), There, "u")
        self.first_of(WIDE, ("split", "wide", "note", "note", "u", "-"), There, "u")
        self.first_of(WIDE, ("split", "wide", "note", "note", "b", "-"), Full, 6)
        self.first_of(WIDE, ("split", "wide", "note", "a", "note", "-"), Full, 6)

    def test_part(self):
        self.first_of(SHOP, ("part", "goods", "sold", ("name", "what", "many"), "sole"), NoColumn, "what")
        self.first_of(SHOP, ("part", "goods", "sold", ("many", "what"), "a"), NoColumn, "many")
        self.first_of(SHOP, ("part", "goods", "sold", ("name",), "a"), There, "sold")
        self.first_of(SHOP, ("part", "goods", "a", ("name",), "sold"), There, "sold")
        self.first_of(SHOP, ("part", "goods", "goods", (), "sold"), There, "sold")
        self.first_of(FULL, ("part", "goods", "a", ("x",), "b"), NoColumn, "x")
        self.first_of(FULL, ("part", "goods", "a", (), "b"), There, "a")
        self.first_of(FULL, ("part", "goods", "b", (), "a"), There, "b")
        self.first_of(FULL, ("part", "goods", "y", (), "a"), There, "a")
        self.first_of(FULL, ("part", "goods", "y", (), "z"), Full, 6)
        self.first_of(FULL, ("part", "goods", "goods", (), "z"), Full, 6)

    def test_unite(self):
        three = (*SHOP, ("there", columns("note int", "price text")))
        self.first_of(three, ("unite", "goods", "there", "sold"), There, "sold")
        self.first_of(three, ("unite", "goods", "there", "goods"), There, "note")
        self.first_of(three, ("unite", "there", "goods", "goods"), There, "price")
        wide = (("a", SIX[:4]), ("b", columns("p int", "z int", "q int")), ("c", SIX))
        self.first_of(wide, ("unite", "a", "b", "d"), Full, 6)
        self.first_of(wide, ("unite", "b", "a", "a"), Full, 6)
        self.first_of(wide, ("unite", "a", "b", "c"), There, "c")
        self.first_of(wide, ("unite", "a", "c", "d"), There, "u")
        self.first_of(wide, ("unite", "b", "c", "d"), There, "z")
        self.first_of(wide, ("unite", "c", "b", "d"), There, "z")


class Always(Case):

    def test_what_stepped_tells_is_a_schema_and_other_tables_stay(self):
        told = 0
        for chance in chances(4000):
            schema, step = any_schema(chance), any_step(chance)
            try:
                behind = stepped(schema, step)
            except MomentError:
                continue
            told += 1
            self.assertEqual(len(empty_state(behind)), len(behind))
            self.assertEqual(stepped(schema, step), behind)
            new = {word for part in step[1:] for word in (part if isinstance(part, tuple) else (part,))}
            for part in schema:
                if part[0] not in new:
                    self.assertIn(part, behind)
        self.assertGreater(told, 500)

    def test_by_name_and_nothing_is_altered(self):
        self.same(stepped(schema=SHOP, step=("gone", "sold")), (GOODS,))
        self.same(stepped(step=("gone", "sold"), schema=SHOP), (GOODS,))
        rows = [["x", "int"]]
        self.refused(BadSchema, (("a", rows),), stepped, (("a", rows),), ("gone", "a"))
        self.refused(BadStep, ("make", "a", rows), stepped, (), ("make", "a", rows))
        self.assertEqual(rows, [["x", "int"]])
