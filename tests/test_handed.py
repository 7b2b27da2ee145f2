"""Section 2: each function by position and by name, twice, with the same result or error, and nothing handed in is altered."""

import importlib

from models import any_story
from samples import (
    ANYTHING, Case, CHANGE_TEXTS, NO_CHANGES, NO_STEPS, NO_VIEWS, STEP_TEXTS, VALUE_TEXTS, VIEW_TEXTS, any_schema, any_state, any_step,
    any_view, chances,
)
from test_copies import ALL, CHUNKS, LEFT, NO_CHUNKS, RIGHT
from test_interface import CLASSES, FUNCTIONS, MADE
from test_scripts import ANN, JOIN, LINES, MAKE, NO_LINES
from toldmoment.desk import Desk
from toldmoment.errors import MomentError
from toldmoment.journals import journal
from toldmoment.letters import letters_of
from toldmoment.states import empty_state, key_rows

# Of these a disk is handed in, which may change.
ON_DISKS = ("founded", "joined")
SCRIPTS = tuple("\n".join(["rig 1", *lines]) for lines in ((), (MAKE, ANN, JOIN, "settle", "show 1"), LINES[:40], ("check", ""), NO_LINES[:1]))


def several(chance):
    """Values for each name of a parameter, some of them right ones beside one another."""
    schema = any_schema(chance, 4)
    state, story = any_state(chance, schema), any_story(chance, chance.randint(0, 5))
    step = any_step(chance)
    views = [view for view, _ in VIEW_TEXTS]
    if any(columns for _, columns in schema):
        views = [any_view(chance, schema)] * len(views) + views
    entry = chance.choice(story.entries or (("deal", ()),))
    letters = letters_of(story.entries, 0, 0, 1)
    numbers = (0, 1, 2, 3, 4, 5, 7, 999999, 1000000, -1)
    return {
        "value": [value for value, _ in VALUE_TEXTS] + [schema, state], "change": [change for change, _ in CHANGE_TEXTS] + list(NO_CHANGES),
        "step": [step, step, step] + [told for told, _ in STEP_TEXTS] + list(NO_STEPS[:20]), "entry": [entry, ("step", step), ("deal", [])],
        "text": [text for pairs in (VALUE_TEXTS, CHANGE_TEXTS, STEP_TEXTS, VIEW_TEXTS) for _, text in pairs] + list(SCRIPTS + LINES) * 2,
        "schema": [schema, schema, schema, story.schema], "state": [state, state, empty_state(schema), [state]],
        "changes": [(), tuple(change for change, _ in CHANGE_TEXTS), (("put", "a", 1, (5,)),)], "table": [*"abcdef", "goods"],
        "key": numbers, "rows": [key_rows(state, 1), key_rows(state, 2), ()], "entries": [story.entries, story.entries[:2], letters],
        "moment": numbers, "edition": numbers, "low": numbers, "high": numbers, "many": numbers, "first": numbers, "partition": numbers,
        "chunks": [(), (LEFT,), (LEFT, RIGHT), (ALL,), (RIGHT,)], "letter": list(CHUNKS + NO_CHUNKS[:30]) + list(letters),
        "view": views + list(NO_VIEWS[:20]), "desk": [led_desk(lines) for lines in ((), (MAKE,), (MAKE, ANN, JOIN, "settle"))],
    }


def led_desk(lines):
    desk = Desk(1)
    for line in lines:
        desk.say(line)
    return desk


def outcome(function, arguments, named):
    try:
        told = function(**dict(zip(named, arguments))) if named else function(*arguments)
    except MomentError as error:
        return type(error).__name__, repr(error.value)
    return journal(told) if isinstance(told, Desk) else repr(told)


def each_function():
    for place, functions in FUNCTIONS.items():
        for name, names in functions.items():
            if name not in ON_DISKS:
                yield getattr(importlib.import_module(place), name), names


class Handed(Case):

    def is_alike(self, function, names, arguments):
        ahead = repr(arguments)
        told = outcome(function, arguments, ())
        for named in (names, ()):
            self.assertEqual(outcome(function, arguments, named), told)
        self.assertEqual(outcome(function, arguments[::-1], names[::-1]), told)
        self.assertEqual(repr(arguments), ahead)
        return told

    def arguments(self, chance, samples, name, names):
        chosen = [chance.choice(samples[parameter]) for parameter in names]
        if name in ("keys_of", "row_in", "key_rows"):
            # They are not told the schema: nothing is specified of what is no state.
            chosen[0] = samples["state"][0]
        elif name == "copied":
            # Nor is anything of chunks and entries that are not those of one source.
            deals = (("deal", (("put", "a", 1, (9,)),)), ("deal", ()))
            chosen = chance.choice(([(ALL,), deals], [(LEFT, RIGHT), deals], [(LEFT,), ()], [chance.choice(ANYTHING), ()], [(ALL,), deals[1:]]))
        elif name != "journal" and chance.random() < 0.2:
            chosen[chance.randrange(len(names))] = chance.choice(ANYTHING)
        return chosen

    def test_each_function(self):
        told = {}
        for chance in chances(120):
            samples = several(chance)
            for function, names in each_function():
                for _ in range(4):
                    arguments = self.arguments(chance, samples, function.__name__, names)
                    told.setdefault(function, set()).add(self.is_alike(function, names, arguments))
        for function, outcomes in told.items():
            self.assertGreater(len(outcomes), 1, function.__name__)
            # Some raise nothing, or nothing of what is specified.
            kinds = {str} if function.__name__ in ("view_in", "journal", "keys_of") else {str, tuple}
            self.assertEqual({type(one) for one in outcomes}, kinds, function.__name__)

    def test_objects_of_the_classes_are_refused_like_any_value(self):
        # Parameters with these names are such objects; of chunks and entries of unlike sources nothing is specified.
        objects = [make() for make in MADE.values()]
        refused = {}
        for chance in chances(60):
            samples = several(chance)
            calls = [(function, names) for function, names in each_function() if function.__name__ not in ("copied", "journal")]
            for name, (_, _, methods, _) in CLASSES.items():
                made = MADE[name]()
                calls += [(getattr(made, method), names) for method, names in methods.items() if names and method != "__eq__"]
            for function, names in calls:
                arguments = [chance.choice(samples.get(parameter, (1, ()))) for parameter in names]
                at = chance.randrange(len(names))
                if function.__name__ in ("keys_of", "row_in", "key_rows"):
                    arguments[0], at = samples["state"][0], len(names) - 1
                    if at == 0:
                        continue
                value = chance.choice(objects)
                for _ in range(chance.choice((0, 1, 2, 9))):
                    value = chance.choice(((value,), (value, 1), (1, value), [value], ("put", value), ("old", 0, value), ("up", 0, value)))
                arguments[at] = value
                try:
                    function(*arguments)
                except MomentError as error:
                    refused[type(error)] = refused.get(type(error), 0) + 1
        self.assertGreater(len(refused), 20)
