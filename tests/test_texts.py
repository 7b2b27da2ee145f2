"""Section 4: texts of values, changes, steps and entries, there and back."""

from samples import (
    ANYTHING, CHANGE_TEXTS, Case, NO_CHANGES, NO_STEPS, NO_VALUES, STEP_TEXTS, VALUE_TEXTS, any_change, any_schema,
    any_step, chances,
)
from toldmoment.errors import BadChange, BadEntry, BadStep, BadText, BadValue, MomentError
from toldmoment.schemas import (
    change_in, change_text, entry_in, entry_text, step_in, step_text, value_in, value_text,
)

READERS = (value_in, change_in, step_in, entry_in)


def near(text):
    """Texts that come near this one, and may or may not tell something."""
    words = text.split(" ")
    for at in range(len(words)):
        yield " ".join(words[:at] + words[at + 1:])
        yield " ".join(words[:at] + ["x"] + words[at:])
        yield " ".join(words[:at] + [words[at]] + words[at:])
        for other in ("", "none", "'", "5", "05", "-0", "+5", "a", "abcdefg", "A", ";", "int", "step", "deal", "0"):
            yield " ".join(words[:at] + [other] + words[at + 1:])
    for at in range(len(text)):
        yield text[:at] + text[at + 1:]
        yield text[:at] + " " + text[at:]
    yield from (" " + text, text + " ", text.upper(), text.replace(" ", "  "), text.replace(" ", "\t"), text + "\n",
                text + " ;", text + " ; ", "; " + text, text + " ; " + text, text.replace(" ", "\n"))


class Values(Case):

    def test_each_value_has_its_word_and_the_word_its_value(self):
        for value, text in VALUE_TEXTS:
            with self.subTest(text):
                self.same(value_text(value), text)
                self.same(value_in(text), value)

    def test_what_is_no_value_is_refused_with_itself(self):
        for value in NO_VALUES:
            with self.subTest(repr(value)):
                self.refused_with(BadValue, value, value_text, value)

    def test_words_that_tell_no_value(self):
        for text in ("", " ", "None", "NONE", "none ", " none", "nonee", "05", "+5", "-0", "00", "-05", "--5", "-", "+",
                     "5 ", " 5", "5.0", "1e3", "0x5", "1_0", "100000000000", "-100000000000", "000000000005", "a", "x",
                     "' ", "'a b", "'abcdefghijklm", "'a\t", "'\n", "'\x7f", "\"a\"", "True", "5\n", "5-", "5'",
                     "9" * 4000, "'" * 4000, "\u0665", "\u00b2"):
            with self.subTest(text):
                self.refused_with(BadText, text, value_in, text)

    def test_value_in_asks_for_text(self):
        for value in ANYTHING:
            if not isinstance(value, str):
                with self.subTest(repr(value)):
                    self.refused_with(BadText, value, value_in, value)


class Changes(Case):

    def test_each_change_has_its_text_and_the_text_its_change(self):
        for change, text in CHANGE_TEXTS:
            with self.subTest(text):
                self.same(change_text(change), text)
                self.same(change_in(text), change)

    def test_what_is_no_change_is_refused_with_itself(self):
        for value in NO_CHANGES + ANYTHING:
            with self.subTest(repr(value)):
                self.refused_with(BadChange, value, change_text, value)

    def test_texts_that_tell_no_change(self):
        for text in ("", " ", "put", "drop", "put a", "drop a", "put a 0", "drop a 0", "put a 1000000", "drop a 1000000",
                     "put a 01", "drop a 01", "drop a +1", "drop a -1", "drop a '1", "drop a none", "drop a 1 1",
                     "drop a 1 none", "drop a 1 ", " drop a 1", "drop  a 1", "drop a  1", "drop A 1", "drop abcdefg 1",
                     "drop 1 a", "Drop a 1", "take a 1", "put a 1 ", "put a 1  5", "put a 1 x", "put a 1 05",
                     "put a 1 5 ", "put a 1 1 2 3 4 5 6 7", "put a 1 'a b", "put a 1 ;", "put a 1 100000000000",
                     "put a 1 'abcdefghijklm", "put  1", "drop  1", "put a x 1", "put\ta\t1", "drop a 1\n"):
            with self.subTest(text):
                self.refused_with(BadText, text, change_in, text)

    def test_change_in_asks_for_text(self):
        for value in ANYTHING + NO_CHANGES + tuple(change for change, _ in CHANGE_TEXTS):
            if not isinstance(value, str):
                with self.subTest(repr(value)):
                    self.refused_with(BadText, value, change_in, value)


class Steps(Case):

    def test_each_step_has_its_text_and_the_text_its_step(self):
        for step, text in STEP_TEXTS:
            with self.subTest(text):
                self.same(step_text(step), text)
                self.same(step_in(text), step)

    def test_what_is_no_step_by_its_form_is_refused_with_itself(self):
        for value in NO_STEPS + ANYTHING:
            with self.subTest(repr(value)):
                self.refused_with(BadStep, value, step_text, value)

    def test_texts_that_tell_no_step(self):
        for text in ("", " ", "make", "make ", "make a ", "make a x", "make a x int y", "make a x int x text",
                     "make a x bool", "make a x none", "make a int x", "make A", "make a  x int", "make a x int ",
                     "make a t int u int v int w int x int y int z int", "gone", "gone ", "gone a b", "gone a ", " gone a",
                     "gone  a", "gone abcdefg", "gone 'a", "gone 1", "Gone a", "call a", "call a b c", "call a B",
                     "add a x int", "add a x int '5", "add a x text 5", "add a x int 05", "add a x int 5 5",
                     "add a x bool none", "add a x int x", "add x int 5", "cut a x", "cut a x x", "cut a x +5",
                     "cut a x -0", "cut a x none none", "cut a x  none", "name a x", "name a x y z",
                     "name a x 'y", "turn a x int 0", "turn a x int 0 0", "turn a x int 'a 'a", "turn a x text 'a 'a",
                     "turn a x text 0 0", "turn a x int 0 none 'a", "turn a x none 0 0", "split a x y y -",
                     "split a x y z", "split a x y z --", "split a x y z  ", "split a x y z - -", "split a x y z '-",
                     "split a x y z ''", "part a", "part a b", "part a b b", "part a b c x x", "part a b c 1",
                     "part a b c ", "part a b c t u v w x y z", "part a x b c ,", "unite a a b", "unite a b",
                     "unite a b c d", "unite a b ", "drop a 1", "deal", "step gone a", "gone\ta", "gone a\n"):
            with self.subTest(text):
                self.refused_with(BadText, text, step_in, text)

    def test_step_in_asks_for_text(self):
        for value in ANYTHING + NO_STEPS + tuple(step for step, _ in STEP_TEXTS):
            if not isinstance(value, str):
                with self.subTest(repr(value)):
                    self.refused_with(BadText, value, step_in, value)

    def test_the_names_stand_last_in_the_text_of_part_alone(self):
        self.same(step_in("part t a b x y"), ("part", "t", "a", ("x", "y"), "b"))
        self.same(step_text(("part", "t", "a", ("x", "y"), "b")), "part t a b x y")


class Entries(Case):

    def test_each_step_makes_an_entry(self):
        for step, text in STEP_TEXTS:
            with self.subTest(text):
                self.same(entry_text(("step", step)), "step " + text)
                self.same(entry_in("step " + text), ("step", step))

    def test_deals_of_none_of_some_and_of_twelve_changes(self):
        for change, text in CHANGE_TEXTS:
            for many in (1, 2, 12):
                with self.subTest(text, many=many):
                    entry, told = ("deal", (change,) * many), "deal " + " ; ".join([text] * many)
                    self.same(entry_text(entry), told)
                    self.same(entry_in(told), entry)
        self.same(entry_text(("deal", ())), "deal")
        self.same(entry_in("deal"), ("deal", ()))

    def test_a_text_value_that_is_a_semicolon_parts_nothing(self):
        entry = ("deal", (("put", "a", 1, (";", ";")), ("put", "a", 2, (";",))))
        self.same(entry_text(entry), "deal put a 1 '; '; ; put a 2 ';")
        self.same(entry_in(entry_text(entry)), entry)

    def test_what_is_no_entry_by_its_form_is_refused_with_itself(self):
        deal = (("drop", "a", 1),)
        wrong = [("deal",), ("deal", None), ("deal", list(deal)), ("deal", deal * 13), ("deal", deal[0]), ("deal", deal, ()),
                 ("deal", ("drop a 1",)), ["deal", deal], ("Deal", deal), ("step", deal), ("deal", ("gone", "a")), ("step",),
                 ("step", ("gone", "a"), ()), ["step", ("gone", "a")], ("steps", ("gone", "a")), (1, ("gone", "a")),
                 ("step", "gone a"), ("gone", "a"), ("drop", "a", 1), "deal", ([], ()), ({}, ()), (None, ())]
        wrong.extend([("step", step) for step in NO_STEPS])
        wrong.extend([("deal", (change,)) for change in NO_CHANGES])
        wrong.extend([("deal", (*deal, change)) for change in NO_CHANGES])
        for value in (*wrong, *ANYTHING):
            with self.subTest(repr(value)):
                self.refused_with(BadEntry, value, entry_text, value)

    def test_texts_that_tell_no_entry(self):
        one = "drop a 1"
        for text in ("", " ", "deal ", " deal", "deal  ", "Deal", "dealt", "deal;", "deal ;", "deal ; ", "deal drop a",
                     "deal " + one + " ", "deal " + one + " ;", "deal " + one + " ; ", "deal ; " + one, "deal  " + one,
                     "deal " + one + " ; ; " + one, "deal " + one + " ;  " + one, "deal " + one + ";" + one,
                     "deal " + one + " " + one, "deal " + one + " , " + one, "deal " + " ; ".join([one] * 13), one,
                     "deal put a 1 ;", "deal step gone a", "deal gone a", "step", "step ", "step  gone a", " step gone a",
                     "step gone a ", "step gone", "step drop a 1", "step deal", "stepgone a", "gone a", "step step gone a",
                     "step gone a ; gone b", "deal\tdrop a 1", "step unite a a b"):
            with self.subTest(text):
                self.refused_with(BadText, text, entry_in, text)

    def test_entry_in_asks_for_text(self):
        for value in (*ANYTHING, ("deal", ()), ("step", ("gone", "a")), ["deal"], b"deal"):
            with self.subTest(repr(value)):
                self.refused_with(BadText, value, entry_in, value)


class Near(Case):

    def check_near(self, text, read, write):
        for other in near(text):
            try:
                found = read(other)
            except BadText as error:
                self.assertIs(error.value, other)
            else:
                self.same(write(found), other)

    def test_a_text_near_one_tells_something_or_is_refused_with_itself(self):
        for _, text in VALUE_TEXTS:
            self.check_near(text, value_in, value_text)
        for _, text in CHANGE_TEXTS:
            self.check_near(text, change_in, change_text)
            self.check_near("deal " + text, entry_in, entry_text)
        for _, text in STEP_TEXTS:
            self.check_near(text, step_in, step_text)
            self.check_near("step " + text, entry_in, entry_text)

    def test_a_text_of_one_thing_is_none_of_another(self):
        for texts, reader in ((VALUE_TEXTS, value_in), (CHANGE_TEXTS, change_in), (STEP_TEXTS, step_in)):
            for _, text in texts:
                for read in READERS:
                    if read != reader:
                        with self.subTest(text, read=read.__name__):
                            self.refused_with(BadText, text, read, text)

    def test_entries_made_by_chance_are_led_back(self):
        for chance in chances(300):
            schema = any_schema(chance) or (("a", ()),)
            changes = tuple(any_change(chance, schema) for _ in range(chance.randint(0, 12)))
            for entry in (("deal", changes), ("step", any_step(chance))):
                self.same(entry_in(entry_text(entry)), entry)


class Names(Case):

    def test_all_arguments_may_be_handed_in_by_name(self):
        self.same(value_text(value=5), "5")
        self.same(value_in(text="5"), 5)
        self.same(change_text(change=("drop", "a", 1)), "drop a 1")
        self.same(change_in(text="drop a 1"), ("drop", "a", 1))
        self.same(step_text(step=("gone", "a")), "gone a")
        self.same(step_in(text="gone a"), ("gone", "a"))
        self.same(entry_text(entry=("deal", ())), "deal")
        self.same(entry_in(text="deal"), ("deal", ()))

    def test_nothing_that_is_refused_is_altered(self):
        inner, table = [("drop", "a", 1)], {"a": [1]}
        for value in (inner, table, ("deal", inner), ("put", "a", 1, inner), ("make", "a", inner), ("part", "a", "b", inner, "c")):
            for function in (value_text, value_in, change_text, change_in, step_text, step_in, entry_text, entry_in):
                with self.assertRaises(MomentError):
                    function(value)
        self.assertEqual((inner, table), ([("drop", "a", 1)], {"a": [1]}))
