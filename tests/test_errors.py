"""Section 2: the errors, and what they keep."""

import ast
import pathlib

from samples import ANYTHING, Case
from toldmoment import errors

NAMES = """
MomentError BadValue BadText BadChange BadStep BadEntry BadSchema There Full NoTable NoColumn BadKind BadState
BadChanges BadValues NoRow BadKey BadRows NoMoment NoEdition BadDisk BadNumber BadPlace BadBlock Fallen BadFates NoBook
BadRecord BadRecords NoRoom BadMany BadEntries BadPartition BadMoment BadLetter Clash NoSource NoPartition BadKeys
NoChunk BadChunks Lacks BadView BadViews NoConsumer Unready BadDeed NoOne NoLetter Awake BadScript BadLine BadLines
NothingToUndo NothingToRedo BadJournal
""".split()


class Errors(Case):

    def test_all_names_are_classes_of_their_own_in_the_file(self):
        tree = ast.parse(pathlib.Path(errors.__file__).read_text())
        self.assertEqual([node.name for node in tree.body if isinstance(node, ast.ClassDef)], NAMES)
        self.assertEqual(len({getattr(errors, name) for name in NAMES}), 56)

    def test_all_derive_directly_from_moment_error_and_it_from_value_error(self):
        self.assertEqual(errors.MomentError.__bases__, (ValueError,))
        for name in NAMES[1:]:
            with self.subTest(name):
                self.assertEqual(getattr(errors, name).__bases__, (errors.MomentError,))

    def test_each_keeps_its_only_argument_whatever_it_is(self):
        for name in NAMES:
            for value in ANYTHING:
                with self.subTest(name, value=value):
                    self.assertIs(getattr(errors, name)(value).value, value)

    def test_each_is_created_by_one_argument(self):
        for name in NAMES:
            with self.subTest(name):
                with self.assertRaises(TypeError):
                    getattr(errors, name)()
                with self.assertRaises(TypeError):
                    getattr(errors, name)(1, 2)

    def test_each_can_be_raised_and_caught_as_a_value_error(self):
        for name in NAMES:
            with self.subTest(name), self.assertRaises(ValueError) as caught:
                raise getattr(errors, name)(name)
            self.assertEqual(caught.exception.value, name)
