"""The interface: names, arguments, and the file in which each one is defined."""

import importlib
import inspect
import unittest

from toldmoment.books import Book
from toldmoment.consumers import joined
from toldmoment.deltas import Kept
from toldmoment.desk import Desk
from toldmoment.disks import Disk
from toldmoment.inboxes import Inbox
from toldmoment.rig import Rig
from toldmoment.source import founded

FUNCTIONS = {
    "toldmoment.schemas": {
        "value_text": ["value"],
        "value_in": ["text"],
        "change_text": ["change"],
        "change_in": ["text"],
        "step_text": ["step"],
        "step_in": ["text"],
        "entry_text": ["entry"],
        "entry_in": ["text"],
        "stepped": ["schema", "step"],
    },
    "toldmoment.states": {
        "empty_state": ["schema"],
        "fits": ["schema", "value"],
        "dealt": ["schema", "state", "changes"],
        "keys_of": ["state"],
        "row_in": ["state", "table", "key"],
        "key_rows": ["state", "key"],
        "with_key_rows": ["schema", "state", "key", "rows"],
    },
    "toldmoment.maps": {
        "forward": ["schema", "step", "state"],
        "back": ["schema", "step", "state"],
        "rows_forward": ["schema", "step", "rows"],
        "rows_back": ["schema", "step", "rows"],
        "undoes": ["step"],
    },
    "toldmoment.histories": {
        "schema_at": ["entries", "moment"],
        "state_at": ["entries", "moment"],
        "edition_at": ["entries", "moment"],
        "schemas": ["entries"],
        "seen": ["entries", "moment", "edition"],
        "keyed": ["entries", "moment", "key"],
        "touched": ["entries", "low", "high"],
        "steps_between": ["entries", "low", "high"],
    },
    "toldmoment.letters": {
        "partition_of": ["key", "many"],
        "letters_of": ["entries", "first", "partition", "many"],
    },
    "toldmoment.source": {
        "founded": ["disk", "partitions"],
    },
    "toldmoment.copies": {
        "counts": ["chunks", "letter"],
        "lacking": ["chunks"],
        "copied": ["chunks", "entries"],
    },
    "toldmoment.views": {
        "check_view": ["schema", "view"],
        "viewed": ["schema", "state", "view"],
        "view_columns": ["schema", "view"],
        "touches": ["schema", "view", "table"],
        "view_text": ["view"],
        "view_in": ["text"],
    },
    "toldmoment.consumers": {
        "joined": ["disk", "partitions", "edition", "views"],
    },
    "toldmoment.scripts": {
        "played": ["text"],
    },
    "toldmoment.journals": {
        "journal": ["desk"],
        "read_journal": ["text"],
    },
}

# Of each class: its file, how it is called, its methods, and what each of its objects has.
CLASSES = {
    "Disk": ("toldmoment.disks", ["blocks", "left"], {
        "read": ["place"], "write": ["place", "text"], "sync": [], "cut": ["fates"], "__eq__": ["other"],
    }, ["blocks", "waiting", "left"]),
    "Book": ("toldmoment.books", ["disk"], {"add": ["record"], "anew": ["records"]}, ["records", "disk"]),
    "Inbox": ("toldmoment.inboxes", ["many", "moment"], {
        "hear": ["letter"], "reach": ["partition"], "newest": [], "whole": [], "done": ["moment"], "asks": [],
    }, ["many", "moment"]),
    "Source": ("toldmoment.source", ["disk"], {
        "deal": ["changes"], "step": ["step"], "rows": ["edition", "table"], "letters": ["partition", "moment"],
        "compact": ["moment"], "chunk": ["low", "high"], "chunk_row": ["chunk"], "chunk_end": ["chunk"],
    }, ["partitions", "moment", "edition", "first", "schema", "state", "steps", "entries"]),
    "Kept": ("toldmoment.deltas", ["schema", "state", "view"], {
        "rows": ["key"], "change": ["key", "rows"], "changes": ["some"], "__eq__": ["other"],
    }, ["schema", "view", "tells"]),
    "Consumer": ("toldmoment.consumers", ["disk"], {
        "hear": ["letter"], "asks": [], "tables": [], "move": ["edition", "views"],
    }, ["partitions", "edition", "views", "moment", "is_copying"]),
    "Rig": ("toldmoment.rig", ["partitions"], {
        "do": ["deed"], "shown": ["who"], "due": ["who"], "check": [], "settle": [],
    }, ["entries", "bag", "down"]),
    "Desk": ("toldmoment.desk", ["partitions"], {
        "say": ["line"], "undo": [], "redo": [], "tried": ["lines"], "copy": [], "__eq__": ["other"],
    }, ["rig", "lines", "answers", "partitions"]),
}

MADE = {
    "Disk": Disk, "Book": lambda: Book(Disk()), "Inbox": lambda: Inbox(1, 0), "Source": lambda: founded(Disk(), 1),
    "Kept": lambda: Kept((("a", (("x", "int"),)),), (("a", ()),), ("count", "a", "x")),
    "Consumer": lambda: joined(Disk(), 1, 0, (("count", "a", "x"),)), "Rig": lambda: Rig(1), "Desk": lambda: Desk(1),
}
DEFAULTS = {("Disk", "blocks"): (), ("Disk", "left"): None}


class Interface(unittest.TestCase):

    def takes(self, function, wanted, owner=None):
        parameters = list(inspect.signature(function).parameters.values())
        self.assertEqual([one.name for one in parameters], wanted)
        for one in parameters:
            self.assertIs(one.kind, inspect.Parameter.POSITIONAL_OR_KEYWORD)
            self.assertEqual(one.default, DEFAULTS.get((owner, one.name), inspect.Parameter.empty))

    def test_each_function_stands_in_its_file_with_its_arguments(self):
        for place, functions in FUNCTIONS.items():
            module = importlib.import_module(place)
            for name, wanted in functions.items():
                with self.subTest(name):
                    function = getattr(module, name)
                    self.assertTrue(inspect.isfunction(function))
                    self.assertEqual((function.__module__, function.__name__), (place, name))
                    self.takes(function, wanted)

    def test_each_class_stands_in_its_file_with_its_methods(self):
        for name, (place, wanted, methods, _) in CLASSES.items():
            with self.subTest(name):
                one = getattr(importlib.import_module(place), name)
                self.assertTrue(inspect.isclass(one))
                self.assertEqual((one.__module__, one.__name__), (place, name))
                self.takes(one, wanted, name)
                for method, more in methods.items():
                    self.assertTrue(inspect.isfunction(vars(one)[method]), method)
                    self.takes(vars(one)[method], ["self", *more])

    def test_each_object_has_what_is_listed(self):
        for name, (_, _, _, attributes) in CLASSES.items():
            made = MADE[name]()
            for attribute in attributes:
                self.assertTrue(hasattr(made, attribute), f"{name}.{attribute}")
