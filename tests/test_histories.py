"""Section 7: histories, what they tell at each moment, and by each edition up to it."""

from models import Story, any_story, model_of, rows_of, state_of
from samples import ANYTHING, Case, NO_CHANGES, NO_STEPS, chances
from toldmoment.errors import BadEntry, BadKey, MomentError, NoEdition, NoMoment
from toldmoment.histories import (
    edition_at, keyed, schema_at, schemas, seen, state_at, steps_between, touched,
)
from toldmoment.states import fits

MAKE = ("step", ("make", "t", (("a", "int"), ("b", "text"))))
DEAL = ("deal", (("put", "t", 1, (5, "x-y")), ("put", "t", 2, (None, "z"))))
SPLIT = ("step", ("split", "t", "b", "c", "d", "-"))
LATER = ("deal", (("put", "t", 1, (6, "p", "q")), ("drop", "t", 2)))
CUT = ("step", ("cut", "t", "a", 0))
ENTRIES = (MAKE, DEAL, SPLIT, LATER, CUT)

# Each function, with what it is handed beside the history.
CALLS = (
    (schema_at, (0,)), (state_at, (0,)), (edition_at, (0,)), (schemas, ()), (seen, (0, 0)), (keyed, (0, 1)),
    (touched, (0, 0)), (steps_between, (0, 0)),
)
NO_MOMENTS = (-1, 6, 7, True, False, None, "0", "", [], [0], (), (0,), {}, object(), 1.0)


class Told(Case):

    def test_at_the_moment_0_and_of_no_entries(self):
        for entries in ((), ENTRIES):
            self.same((schema_at(entries, 0), state_at(entries, 0), edition_at(entries, 0)), ((), (), 0))
            self.same(seen(entries, 0, 0), ((), ()))
            self.same(keyed(entries, 0, 7), ())
        self.same(schemas(()), ((),))
        self.same((touched((), 0, 0), steps_between((), 0, 0)), ((), ()))

    def test_histories_of_all_kinds_at_each_moment_and_edition(self):
        for chance in chances(70):
            story = any_story(chance, chance.randint(0, 14))
            entries = story.entries
            self.same(schemas(entries), story.edition_schemas())
            for moment in range(story.moment + 1):
                state = story.state(moment)
                self.same(schema_at(entries, moment), story.schemas[moment])
                self.same(state_at(entries, moment), state)
                self.same(edition_at(entries, moment), story.editions[moment])
                self.assertIs(fits(schema_at(entries, moment), state), True)
                for edition in range(story.editions[moment] + 1):
                    self.same(seen(entries, moment, edition), story.seen(moment, edition))
                self.same(seen(entries, moment, story.editions[moment]), (story.schemas[moment], state))
                for key in (1, 2, 3, 4, 5, 6, 999999):
                    self.same(keyed(entries, moment, key), rows_of(story.schemas[moment], story.models[moment], key))

    def test_an_entry_behind_the_moment_changes_nothing_of_it(self):
        for chance in chances(30):
            story = any_story(chance, 10)
            for moment in range(11):
                ahead = story.entries[:moment]
                self.same(state_at(ahead, moment), state_at(story.entries, moment))
                self.same(seen(ahead, moment, 0), seen(story.entries, moment, 0))
                self.same(schemas(ahead), schemas(story.entries)[:story.editions[moment] + 1])

    def test_touched_and_steps_between(self):
        for chance in chances(60):
            story = any_story(chance, 9)
            for low in range(10):
                for high in range(10):
                    between = story.entries[low:high] if low < high else ()
                    keys = {change[2] for word, told in between if word == "deal" for change in told}
                    self.same(touched(story.entries, low, high), tuple(sorted(keys)))
                    self.same(steps_between(story.entries, low, high),
                              tuple(told for word, told in between if word == "step"))

    def test_a_key_that_is_not_touched_while_no_step_is_done_stays_the_same(self):
        for chance in chances(60):
            story = any_story(chance, 12, steps=0.1)
            for low in range(12):
                for high in range(low, 13):
                    if not steps_between(story.entries, low, high):
                        hands = touched(story.entries, low, high)
                        for key in (1, 2, 3, 4, 5, 77, 999999):
                            if key not in hands:
                                self.same(keyed(story.entries, low, key), keyed(story.entries, high, key))

    def test_what_a_key_has_hangs_on_its_own_changes_and_the_steps(self):
        for chance in chances(60):
            story = any_story(chance, 12)
            for key in (1, 2, 999999):
                alone = tuple((word, tuple(change for change in told if change[2] == key) if word == "deal" else told)
                              for word, told in story.entries)
                for moment in range(13):
                    self.same(keyed(alone, moment, key), keyed(story.entries, moment, key))

    def test_deals_without_changes(self):
        entries = (("deal", ()), MAKE, ("deal", ()), DEAL, ("deal", ()))
        self.same([edition_at(entries, moment) for moment in range(6)], [0, 0, 1, 1, 1, 1])
        self.same(state_at(entries, 1), ())
        self.same(state_at(entries, 3), (("t", ()),))
        self.same(state_at(entries, 5), state_at(entries, 4))
        self.same(touched(entries, 0, 3), ())
        self.same(touched(entries, 0, 5), (1, 2))
        self.same(steps_between(entries, 0, 5), (MAKE[1],))

    def test_a_key_that_is_put_and_dropped_at_once_is_touched(self):
        entries = (MAKE, ("deal", (("put", "t", 9, (1, "")), ("drop", "t", 9))))
        self.same(touched(entries, 0, 2), (9,))
        self.same(keyed(entries, 2, 9), (("t", None),))

    def test_steps_back_over_several_editions(self):
        entries = (*ENTRIES, ("step", ("call", "t", "s")), ("step", ("gone", "s")))
        self.same(seen(entries, 5, 1), ((("t", (("a", "int"), ("b", "text"))),), (("t", ((1, (0, "p-q")),)),)))
        self.same(seen(entries, 6, 1), seen(entries, 5, 1))
        self.same(seen(entries, 7, 1)[1], (("t", ()),))
        self.same(seen(entries, 7, 4)[1], (("s", ()),))
        self.same(seen(entries, 7, 5), ((), ()))


class Refused(Case):

    def refused_all(self, entries, number):
        for function, more in CALLS:
            with self.subTest(function.__name__):
                self.refused(BadEntry, number, function, entries, *more)
                self.refused(BadEntry, number, function, entries, *[None] * len(more))

    def test_what_is_no_tuple_of_up_to_200_entries(self):
        for entries in ANYTHING:
            if not isinstance(entries, tuple):
                self.refused_all(entries, 0)
        self.refused_all(list(ENTRIES), 0)
        self.refused_all(({},) * 201, 0)
        self.refused_all((MAKE, *[("deal", ())] * 200), 0)

    def test_200_entries(self):
        entries = (MAKE, *[("deal", (("put", "t", 1, (number, "")),)) for number in range(199)])
        self.same(state_at(entries, 200), (("t", ((1, (198, "")),)),))
        self.refused(NoMoment, 201, state_at, entries, 201)
        self.same((edition_at(entries, 200), touched(entries, 0, 200), len(schemas(entries))), (1, (1,), 2))

    def test_each_place_at_which_an_entry_is_none_by_its_form(self):
        wrong = [None, True, "deal", (), ("deal",), ("deal", (), ()), ["deal", ()], ("deal", []), ("deal", None), ("step",),
                 ("step", ()), ("Deal", ()), (None, ()), ("deal", (("put", "t", 1, ()),) * 13), ("step", ["gone", "t"])]
        wrong.extend([("deal", (change,)) for change in NO_CHANGES[:20]])
        wrong.extend([("step", step) for step in NO_STEPS[:20]])
        for entry in wrong:
            for at in range(5):
                with self.subTest(repr(entry), at=at):
                    self.refused_all((*ENTRIES[:at], entry, *ENTRIES[at:]), at + 1)
                    self.refused_all((*ENTRIES[:at], entry, None, True), at + 1)

    def test_each_place_at_which_an_entry_cannot_stand(self):
        for at in range(1, 5):
            for entry in (("step", ("make", "t", ())), ("step", ("gone", "u")), ("deal", (("drop", "t", 3),)),
                          ("deal", (("put", "u", 1, ()),)), ("deal", (("put", "t", 1, ()),)), ("deal", (("put", "t", 1, (1, 2)),)),
                          ("step", ("cut", "t", "a", "x"))):
                with self.subTest(repr(entry), at=at):
                    self.refused_all((*ENTRIES[:at], entry, *ENTRIES[at:]), at + 1)
        self.refused_all(ENTRIES[1:], 1)
        self.refused_all((*ENTRIES, ("deal", (("put", "t", 1, (6, "p", "q")),))), 6)
        self.refused_all((*ENTRIES, CUT), 6)
        self.refused_all((MAKE, DEAL, LATER), 3)
        self.refused_all((MAKE, DEAL, ("deal", (("drop", "t", 1), ("drop", "t", 1)))), 3)

    def test_an_entry_behind_the_moment_is_looked_at_too(self):
        self.refused_all((*ENTRIES, None), 6)

    def test_moments(self):
        for value in NO_MOMENTS:
            for function in (schema_at, state_at, edition_at):
                self.refused_with(NoMoment, value, function, ENTRIES, value)
            self.refused_with(NoMoment, value, seen, ENTRIES, value, None)
            self.refused_with(NoMoment, value, keyed, ENTRIES, value, None)
            for function in (touched, steps_between):
                self.refused_with(NoMoment, value, function, ENTRIES, value, None)
                for low in (0, 3, 5):
                    self.refused_with(NoMoment, value, function, ENTRIES, low, value)
        for moment in range(6):
            schema_at(ENTRIES, moment)

    def test_editions(self):
        for moment, newest in enumerate((0, 1, 1, 2, 2, 3)):
            for value in (newest + 1, -1, 4, True, False, None, "0", [], (), (0,), {}, 1.0):
                with self.subTest(repr(value), moment=moment):
                    self.refused_with(NoEdition, value, seen, ENTRIES, moment, value)

    def test_keys(self):
        for value in (0, -1, 1000000, True, False, None, "1", [], (), (1,), {}, 1.0):
            for moment in (0, 3, 5):
                self.refused_with(BadKey, value, keyed, ENTRIES, moment, value)

    def test_by_name_and_nothing_is_altered(self):
        self.same(schema_at(moment=1, entries=ENTRIES), (("t", MAKE[1][2]),))
        self.same(state_at(moment=1, entries=ENTRIES), (("t", ()),))
        self.same(edition_at(moment=4, entries=ENTRIES), 2)
        self.same(len(schemas(entries=ENTRIES)), 4)
        self.same(seen(edition=0, moment=4, entries=ENTRIES), ((), ()))
        self.same(keyed(key=2, moment=2, entries=ENTRIES), (("t", (None, "z")),))
        self.same(touched(high=4, low=1, entries=ENTRIES), (1, 2))
        self.same(steps_between(high=3, low=2, entries=ENTRIES), (SPLIT[1],))
        parts = [["step", ["gone", "t"]], []]
        for function, more in CALLS:
            for entries in (parts, tuple(parts), (tuple(parts[0]),)):
                with self.assertRaises(MomentError):
                    function(entries, *more)
        self.assertEqual(parts, [["step", ["gone", "t"]], []])


class Model(Case):
    """What the tests hold the program against is held against the document's example."""

    def test_the_story_of_the_example(self):
        story = Story()
        for entry in ENTRIES:
            story.tell(entry)
        self.same(story.state(2), (("t", ((1, (5, "x-y")), (2, (None, "z")))),))
        self.same(story.state(5), (("t", ((1, ("p", "q")),)),))
        self.same(story.seen(5, 1), ((("t", (("a", "int"), ("b", "text"))),), (("t", ((1, (0, "p-q")),)),)))
        self.same(state_of(story.schemas[3], model_of(story.schemas[3], story.state(3))), story.state(3))
