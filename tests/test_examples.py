"""The document's examples of sections 4 and 5, as they stand there, and what is told in parentheses beneath them.

Section 4:

>>> from toldmoment.schemas import change_in, change_text, entry_in, entry_text, step_in, step_text, stepped, value_in, value_text
>>> [value_text(None), value_text(-7), value_text('none'), value_text(''), value_in("'-7"), value_in('-7'), value_in("''")]
['none', '-7', "'none", "'", '-7', -7, "'"]
>>> [change_text(('put', 'cats', 12, ('tom', None, 3))), change_in('drop cats 12')]
["put cats 12 'tom none 3", ('drop', 'cats', 12)]
>>> [step_text(('make', 'cats', (('name', 'text'), ('age', 'int')))), step_in("turn cats age text 'x none"), step_text(('part', 'a', 'b', ('x', 'y'), 'c'))]
['make cats name text age int', ('turn', 'cats', 'age', 'text', 'x', None), 'part a b c x y']
>>> two = ('deal', (('put', 'a', 1, ('x;',)), ('drop', 'a', 2)))
>>> [entry_text(two), entry_in(entry_text(two)) == two, entry_text(('deal', ())), entry_in('step gone a')]
["deal put a 1 'x; ; drop a 2", True, 'deal', ('step', ('gone', 'a'))]
>>> cats = (('cats', (('name', 'text'), ('age', 'int'))),)
>>> [stepped(cats, ('add', 'cats', 'owner', 'int', None)), stepped(cats, ('cut', 'cats', 'name', ''))]
[(('cats', (('name', 'text'), ('age', 'int'), ('owner', 'int'))),), (('cats', (('age', 'int'),)),)]
>>> stepped(cats, ('split', 'cats', 'name', 'first', 'name', '-'))
(('cats', (('first', 'text'), ('name', 'text'), ('age', 'int'))),)
>>> parted = stepped(cats, ('part', 'cats', 'names', ('name',), 'cats'))
>>> [parted, stepped(parted, ('unite', 'names', 'cats', 'all'))]
[(('cats', (('age', 'int'),)), ('names', (('name', 'text'),))), (('all', (('name', 'text'), ('age', 'int'))),)]
>>> [stepped((), ('make', 'b', ())), stepped(cats, ('call', 'cats', 'dogs'))[0][0], stepped(cats, ('turn', 'cats', 'age', 'text', None, 0))]
[(('b', ()),), 'dogs', (('cats', (('name', 'text'), ('age', 'text'))),)]

Section 5:

>>> from toldmoment.states import dealt, empty_state, fits, key_rows, keys_of, row_in, with_key_rows
>>> schema = (('cats', (('name', 'text'), ('age', 'int'))), ('dogs', (('name', 'text'),)))
>>> empty = empty_state(schema)
>>> empty
(('cats', ()), ('dogs', ()))
>>> state = dealt(schema, empty, (('put', 'cats', 5, ('tom', 3)), ('put', 'dogs', 5, ('rex',)), ('put', 'cats', 2, ('kim', None))))
>>> state
(('cats', ((2, ('kim', None)), (5, ('tom', 3)))), ('dogs', ((5, ('rex',)),)))
>>> [keys_of(state), row_in(state, 'cats', 5), row_in(state, 'dogs', 2), key_rows(state, 2)]
[(2, 5), ('tom', 3), None, (('cats', ('kim', None)), ('dogs', None))]
>>> later = dealt(schema, state, (('drop', 'cats', 5), ('put', 'cats', 5, ('tim', 4)), ('drop', 'cats', 2)))
>>> [later[0], with_key_rows(schema, later, 5, (('cats', None), ('dogs', None))) == empty]
[('cats', ((5, ('tim', 4)),)), True]
>>> [fits(schema, state), fits(schema, empty[:1]), fits(schema, (('cats', ((5, ('tom', 'x')),)), ('dogs', ())))]
[True, False, False]
"""

import doctest

from samples import Case
from toldmoment.errors import BadKind, BadStep, BadValue, BadValues, NoRow
from toldmoment.schemas import stepped
from toldmoment.states import dealt, empty_state

CATS = (("cats", (("name", "text"), ("age", "int"))),)
BOTH = (*CATS, ("dogs", (("name", "text"),)))


def load_tests(loader, tests, pattern):
    tests.addTests(doctest.DocTestSuite(optionflags=doctest.DONT_ACCEPT_TRUE_FOR_1))
    return tests


class Parentheses(Case):

    def test_beneath_section_4(self):
        self.refused(BadKind, "age", stepped, CATS, ("turn", "cats", "age", "int", 0, None))
        unite = ("unite", "cats", "cats", "x")
        self.refused_with(BadStep, unite, stepped, CATS, unite)
        self.refused(BadValue, "x", stepped, CATS, ("cut", "cats", "age", "x"))

    def test_beneath_section_5(self):
        empty = empty_state(BOTH)
        self.refused(NoRow, ("cats", 1), dealt, BOTH, empty, (("drop", "cats", 1),))
        self.refused(BadValues, (7,), dealt, BOTH, empty, (("put", "dogs", 1, (7,)),))
