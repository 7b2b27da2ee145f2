"""The document's examples of sections 4 to 16, as they stand there, and what is told in parentheses beneath them.

Section 4:

>>> from toldmoment.schemas import change_in, change_text, entry_in, entry_text, step_in, step_text, stepped, value_in, value_text
>>> [value_text(None), value_text(-7), value_text('none'), value_text(''), value_in("'-7"), value_in('-7'), value_in("''")]
['none', '-7', "'none", "'", '-7', -7, "'"]
>>> [change_text(('put', 'cats', 12, ('tom', None, 3))), change_in('drop cats 12')]
["put cats 12 'tom none 3", ('drop', 'cats', 12)]
>>> [step_text(('make', 'cats', (('name', 'text'), ('age', 'int')))), step_in("turn cats age text 'x none"), step_text(('part', 'a', 'b', ('x', 'y'), 'c'))]
['make cats name text age int', ('turn', 'cats', 'age', 'text', 'x', None), 'part a b c x y']
>>> two = ('deal', (('put', 'a', 1, ('x;',)), ('drop', 'a', 2)))
>>> [entry_text(two), entry_in(entry_text(two)) == two, entry_text(('deal', ())), entry_in('step gone a')]
["deal put a 1 'x; ; drop a 2", True, 'deal', ('step', ('gone', 'a'))]
>>> cats = (('cats', (('name', 'text'), ('age', 'int'))),)
>>> [stepped(cats, ('add', 'cats', 'owner', 'int', None)), stepped(cats, ('cut', 'cats', 'name', ''))]
[(('cats', (('name', 'text'), ('age', 'int'), ('owner', 'int'))),), (('cats', (('age', 'int'),)),)]
>>> stepped(cats, ('split', 'cats', 'name', 'first', 'name', '-'))
(('cats', (('first', 'text'), ('name', 'text'), ('age', 'int'))),)
>>> parted = stepped(cats, ('part', 'cats', 'names', ('name',), 'cats'))
>>> [parted, stepped(parted, ('unite', 'names', 'cats', 'all'))]
[(('cats', (('age', 'int'),)), ('names', (('name', 'text'),))), (('all', (('name', 'text'), ('age', 'int'))),)]
>>> [stepped((), ('make', 'b', ())), stepped(cats, ('call', 'cats', 'dogs'))[0][0], stepped(cats, ('turn', 'cats', 'age', 'text', None, 0))]
[(('b', ()),), 'dogs', (('cats', (('name', 'text'), ('age', 'text'))),)]

Section 5:

>>> from toldmoment.states import dealt, empty_state, fits, key_rows, keys_of, row_in, with_key_rows
>>> schema = (('cats', (('name', 'text'), ('age', 'int'))), ('dogs', (('name', 'text'),)))
>>> empty = empty_state(schema)
>>> empty
(('cats', ()), ('dogs', ()))
>>> state = dealt(schema, empty, (('put', 'cats', 5, ('tom', 3)), ('put', 'dogs', 5, ('rex',)), ('put', 'cats', 2, ('kim', None))))
>>> state
(('cats', ((2, ('kim', None)), (5, ('tom', 3)))), ('dogs', ((5, ('rex',)),)))
>>> [keys_of(state), row_in(state, 'cats', 5), row_in(state, 'dogs', 2), key_rows(state, 2)]
[(2, 5), ('tom', 3), None, (('cats', ('kim', None)), ('dogs', None))]
>>> later = dealt(schema, state, (('drop', 'cats', 5), ('put', 'cats', 5, ('tim', 4)), ('drop', 'cats', 2)))
>>> [later[0], with_key_rows(schema, later, 5, (('cats', None), ('dogs', None))) == empty]
[('cats', ((5, ('tim', 4)),)), True]
>>> [fits(schema, state), fits(schema, empty[:1]), fits(schema, (('cats', ((5, ('tom', 'x')),)), ('dogs', ())))]
[True, False, False]

Section 6:

>>> from toldmoment.maps import back, forward, rows_back, rows_forward, undoes
>>> schema = (('goods', (('name', 'text'), ('price', 'int'))),)
>>> state = (('goods', ((1, ('ham-egg', 5)), (2, (None, None)), (7, ('tea', 3)))),)
>>> split = ('split', 'goods', 'name', 'dish', 'side', '-')
>>> forward(schema, split, state)
(('goods', ((1, ('ham', 'egg', 5)), (2, (None, None, None)), (7, ('tea', None, 3)))),)
>>> [back(schema, split, forward(schema, split, state)) == state, back(schema, split, (('goods', ((1, (None, 'x', 0)),)),))]
[True, (('goods', ((1, ('-x', 0)),)),)]
>>> dear = ('turn', 'goods', 'price', 'text', None, 0)
>>> [forward(schema, dear, state)[0][1][0], back(schema, dear, (('goods', ((1, ('ham', '05')), (2, ('egg', '12')))),))]
[(1, ('ham-egg', '5')), (('goods', ((1, ('ham', 0)), (2, ('egg', 12)))),)]
>>> apart = ('part', 'goods', 'costs', ('price',), 'goods')
>>> forward(schema, apart, state)
(('costs', ((1, (5,)), (2, (None,)), (7, (3,)))), ('goods', ((1, ('ham-egg',)), (2, (None,)), (7, ('tea',)))))
>>> [rows_forward(schema, apart, (('goods', None),)), rows_back(schema, apart, (('costs', (9,)), ('goods', None)))]
[(('costs', None), ('goods', None)), (('goods', (None, 9)),)]
>>> [undoes(split), undoes(dear), undoes(('cut', 'goods', 'name', None)), undoes(('call', 'goods', 'wares'))]
[('there',), ('there',), ('back',), ('both',)]

Section 7:

>>> from toldmoment.histories import edition_at, keyed, schema_at, schemas, seen, state_at, steps_between, touched
>>> make = ('step', ('make', 't', (('a', 'int'), ('b', 'text'))))
>>> deal = ('deal', (('put', 't', 1, (5, 'x-y')), ('put', 't', 2, (None, 'z'))))
>>> split, cut = ('step', ('split', 't', 'b', 'c', 'd', '-')), ('step', ('cut', 't', 'a', 0))
>>> entries = (make, deal, split, ('deal', (('put', 't', 1, (6, 'p', 'q')), ('drop', 't', 2))), cut)
>>> [schema_at(entries, 0), schema_at(entries, 3), [edition_at(entries, moment) for moment in range(6)], len(schemas(entries))]
[(), (('t', (('a', 'int'), ('c', 'text'), ('d', 'text'))),), [0, 1, 1, 2, 2, 3], 4]
>>> [state_at(entries, 2), state_at(entries, 3)]
[(('t', ((1, (5, 'x-y')), (2, (None, 'z')))),), (('t', ((1, (5, 'x', 'y')), (2, (None, 'z', None)))),)]
>>> [state_at(entries, 4), state_at(entries, 5)]
[(('t', ((1, (6, 'p', 'q')),)),), (('t', ((1, ('p', 'q')),)),)]
>>> seen(entries, 5, 1)
((('t', (('a', 'int'), ('b', 'text'))),), (('t', ((1, (0, 'p-q')),)),))
>>> [seen(entries, 4, 1)[1], seen(entries, 5, 0), seen(entries, 5, 3)[1] == state_at(entries, 5)]
[(('t', ((1, (6, 'p-q')),)),), ((), ()), True]
>>> [keyed(entries, 2, 2), keyed(entries, 4, 2), touched(entries, 2, 3), touched(entries, 1, 4), steps_between(entries, 2, 5)]
[(('t', (None, 'z')),), (('t', None),), (), (1, 2), (('split', 't', 'b', 'c', 'd', '-'), ('cut', 't', 'a', 0))]

Section 8:

>>> from toldmoment.books import Book
>>> from toldmoment.disks import Disk
>>> disk = Disk(('old one', '', 'third'))
>>> disk.write(0, 'new')
>>> disk.write(4, 'far')
>>> disk.write(0, 'newer text')
>>> [disk.read(0), disk.blocks, disk.cut(('all', 'none', 'none')).blocks, disk.cut((3, 'all', 5)).blocks]
['newer text', ('old one', '', 'third'), ('new', '', 'third'), ('newerne', '', 'third', '', 'far')]
>>> paper = Disk()
>>> book = Book(paper)
>>> book.add(('put', 'a', '5'))
>>> book.add(())
>>> [book.records, Book(paper.cut(())).records, paper.waiting]
[(('put', 'a', '5'), ()), (('put', 'a', '5'), ()), ()]
>>> book.anew((('one',) * 200, ('x' * 40,)))
>>> [len(book.records), Book(paper.cut(())).records == book.records]
[2, True]

Section 9:

>>> from toldmoment.disks import Disk
>>> from toldmoment.source import founded, Source
>>> disk = Disk()
>>> source = founded(disk, 2)
>>> source.step(('make', 'staff', (('who', 'text'), ('pay', 'int'))))
1
>>> source.deal((('put', 'staff', 1, ('ann', 5)), ('put', 'staff', 2, ('bob', 7))))
2
>>> [source.step(('add', 'staff', 'room', 'int', 0)), source.rows(2, 'staff'), source.rows(1, 'staff')]
[3, ((1, ('ann', 5, 0)), (2, ('bob', 7, 0))), ((1, ('ann', 5)), (2, ('bob', 7)))]
>>> source.letters(1, 1)
(('deal', 1, 2, 1, (('put', 'staff', 2, ('bob', 7)),)), ('step', 1, 3, 2, ('add', 'staff', 'room', 'int', 0)), ('mark', 1, 3, 3))
>>> chunk = source.chunk(1, 9)
>>> [source.chunk_row(chunk), source.deal((('drop', 'staff', 2), ('put', 'staff', 3, ('cid', 1, 4)))), source.chunk_row(chunk), source.chunk_row(chunk)]
[True, 4, True, False]
>>> letter = source.chunk_end(chunk)
>>> [letter[:3], len(letter[3]), letter[4]]
[('chunk', (3, 4), (1, 9)), 2, ((1, (('staff', ('ann', 5, 0)),)), (3, (('staff', ('cid', 1, 4)),)))]
>>> source.compact(3)
>>> [source.first, source.entries, source.letters(0, 2), source.letters(0, 3)[-1]]
[3, (('deal', (('drop', 'staff', 2), ('put', 'staff', 3, ('cid', 1, 4)))),), (('old', 0, 3),), ('mark', 0, 4, 4)]
>>> again = Source(disk.cut(()))
>>> [again.moment, again.edition, again.first, again.state == source.state, again.steps == source.steps]
[4, 2, 3, True, True]

Section 10:

>>> from toldmoment.inboxes import Inbox
>>> from toldmoment.letters import letters_of, partition_of
>>> entries = (('step', ('make', 'a', (('x', 'int'),))), ('deal', (('put', 'a', 1, (5,)), ('put', 'a', 2, (6,)))), ('deal', (('drop', 'a', 2),)))
>>> [partition_of(key, 2) for key in (1, 2, 3)]
[0, 1, 0]
>>> even, odd = letters_of(entries, 0, 0, 2), letters_of(entries, 0, 1, 2)
>>> even
(('step', 0, 1, 0, ('make', 'a', (('x', 'int'),))), ('deal', 0, 2, 1, (('put', 'a', 1, (5,)),)))
>>> odd[1:]
(('deal', 1, 2, 1, (('put', 'a', 2, (6,)),)), ('deal', 1, 3, 2, (('drop', 'a', 2),)))
>>> inbox = Inbox(2, 0)
>>> inbox.hear(even[1])
>>> inbox.hear(odd[2])
>>> [inbox.newest(), inbox.whole(), inbox.asks()]
[0, (), ((0, 0), (1, 0))]
>>> inbox.hear(even[0])
>>> inbox.hear(odd[0])
>>> [inbox.reach(0), inbox.reach(1), inbox.newest(), inbox.whole() == ((1, entries[0]),), inbox.asks()]
[2, 1, 1, True, ((0, 2), (1, 1))]
>>> inbox.done(1)
>>> inbox.hear(odd[1])
>>> inbox.hear(('mark', 0, 3, 2))
>>> [inbox.newest(), inbox.whole() == ((2, entries[1]), (3, entries[2])), inbox.asks()]
[3, True, ()]

Section 11:

>>> from toldmoment.copies import copied, counts, lacking
>>> make, add = ('make', 'a', (('x', 'int'),)), ('add', 'a', 'y', 'int', 0)
>>> one = ('chunk', (2, 4), (1, 999999), (make,), ((1, (('a', (5,)),)), (2, (('a', (3,)),))))
>>> deals = (('deal', (('put', 'a', 1, (9,)), ('put', 'a', 2, (3,)))), ('deal', (('drop', 'a', 4),)))
>>> [counts((), one), lacking(()), lacking((one,)), counts((one,), one)]
[True, 1, None, False]
>>> copied((one,), deals)
(4, (('make', 'a', (('x', 'int'),)),), (('a', (('x', 'int'),)),), (('a', ((1, (9,)), (2, (3,)))),))
>>> left = ('chunk', (2, 2), (1, 2), (make,), ((1, (('a', (5,)),)),))
>>> right = ('chunk', (3, 3), (3, 999999), (make, add), ((4, (('a', (7, 0)),)),))
>>> [lacking((left,)), counts((left,), right), counts((), right), counts((left,), ('chunk', (2, 3), (3, 2), (make,), ()))]
[3, True, False, False]
>>> copied((left, right), (('step', add),))
(3, (('make', 'a', (('x', 'int'),)), ('add', 'a', 'y', 'int', 0)), (('a', (('x', 'int'), ('y', 'int'))),), (('a', ((1, (5, 0)), (4, (7, 0)))),))
>>> copied((('chunk', (0, 0), (1, 999999), (), ()),), ())
(0, (), (), ())

Section 12:

>>> from toldmoment.views import touches, view_columns, view_in, view_text, viewed
>>> schema = (('goods', (('name', 'text'), ('price', 'int'))), ('sold', (('what', 'int'), ('many', 'int'))))
>>> goods = ((1, ('ham', 5)), (2, ('tea', None)), (7, (None, 3)))
>>> state = (('goods', goods), ('sold', ((3, (1, 10)), (4, (9, 1)), (5, (None, 2)), (6, (1, None)))))
>>> [viewed(schema, state, ('rows', 'goods', ('price',), None)), viewed(schema, state, ('rows', 'goods', ('price', 'name'), ('price', '>', 3)))]
[((1, (5,)), (2, (None,)), (7, (3,))), ((1, (5, 'ham')),)]
>>> viewed(schema, state, ('pair', 'sold', 'what', 'goods'))
((3, (1, 10), ('ham', 5)), (4, (9, 1), (None, None)), (5, (None, 2), (None, None)), (6, (1, None), ('ham', 5)))
>>> [viewed(schema, state, ('count', 'sold', 'what')), viewed(schema, state, ('sum', 'sold', 'many', 'what'))]
[((None, 1), (1, 2), (9, 1)), ((None, 2), (1, 10), (9, 1))]
>>> [viewed(schema, state, ('rows', 'goods', (), ('name', op, value))) for op, value in (('=', None), ('<', 'sugar'))]
[((7, ()),), ((1, ()),)]
>>> pair = ('pair', 'sold', 'what', 'goods')
>>> [view_columns(schema, pair), touches(schema, pair, 'goods'), touches(schema, ('count', 'sold', 'what'), 'goods')]
[('what', 'many', 'name', 'price'), True, False]
>>> [view_text(('rows', 'goods', ('price', 'name'), ('price', '>', 3))), view_in('sum sold many what'), view_in('rows goods - if name = none')]
['rows goods price,name if price > 3', ('sum', 'sold', 'many', 'what'), ('rows', 'goods', (), ('name', '=', None))]

Section 13:

>>> from toldmoment.deltas import Kept
>>> schema = (('goods', (('name', 'text'), ('price', 'int'))), ('sold', (('what', 'int'), ('many', 'int'))))
>>> state = (('goods', ((1, ('ham', 5)), (2, ('tea', None)))), ('sold', ((3, (1, 10)), (4, (9, 1)))))
>>> pair = Kept(schema, state, ('pair', 'sold', 'what', 'goods'))
>>> [pair.tells, pair.rows(1)]
[((3, (1, 10), ('ham', 5)), (4, (9, 1), (None, None))), (('goods', ('ham', 5)), ('sold', None))]
>>> pair.change(9, (('goods', ('salt', 1)), ('sold', None)))
>>> pair.change(3, (('goods', None), ('sold', (2, 0))))
>>> pair.tells
((3, (2, 0), ('tea', None)), (4, (9, 1), ('salt', 1)))
>>> total = Kept(schema, state, ('sum', 'sold', 'many', 'what'))
>>> total.changes(((3, (('goods', None), ('sold', (9, None)))), (5, (('goods', None), ('sold', (None, 4))))))
>>> total.tells
((None, 4), (9, 1))
>>> total.change(4, (('goods', None), ('sold', None)))
>>> [total.tells, Kept(schema, state, ('sum', 'sold', 'many', 'what')) == total]
[((None, 4), (9, 0)), False]

Section 14:

>>> from toldmoment.consumers import Consumer, joined
>>> from toldmoment.disks import Disk
>>> from toldmoment.source import founded
>>> source = founded(Disk(), 1)
>>> moments = [source.step(('make', 'staff', (('who', 'text'), ('pay', 'int')))), source.deal((('put', 'staff', 1, ('ann', 5)), ('put', 'staff', 4, ('bob', 7))))]
>>> mine = Disk()
>>> one = joined(mine, 1, 1, (('rows', 'staff', ('who',), ('pay', '>', 5)), ('sum', 'staff', 'pay', 'who')))
>>> [one.moment, one.is_copying, one.asks()]
[None, True, (('keys', 1, 999999),)]
>>> chunk = source.chunk(1, 999999)
>>> [source.chunk_row(chunk), source.deal((('put', 'staff', 1, ('ann', 9)),)), source.chunk_row(chunk), source.chunk_row(chunk)]
[True, 3, True, False]
>>> one.hear(source.chunk_end(chunk))
>>> [one.moment, one.asks()]
[None, (('letters', 0, 2),)]
>>> [one.hear(its) for its in source.letters(0, 2)[::-1]]
[None, None]
>>> [one.moment, one.tables()]
[3, (((1, ('ann',)), (4, ('bob',))), (('ann', 9), ('bob', 7)))]
>>> [source.step(('split', 'staff', 'who', 'a', 'b', '-')), source.step(('cut', 'staff', 'pay', 6)), source.deal((('put', 'staff', 4, ('bo', 'b')),))]
[4, 5, 6]
>>> [one.hear(its) for its in (*source.letters(0, 3), *source.letters(0, 3))] == [None] * 8
True
>>> [one.moment, one.tables(), Consumer(mine.cut(())).tables() == one.tables(), one.asks()]
[6, (((1, ('ann',)), (4, ('bo-b',))), (('ann', 6), ('bo-b', 6))), True, (('letters', 0, 6),)]

Section 15:

>>> from toldmoment.rig import Rig
>>> rig = Rig(1)
>>> make, count = ('make', 's', (('who', 'text'), ('pay', 'int'))), ('count', 's', 'pay')
>>> [rig.do(deed) for deed in (('step', make), ('deal', (('put', 's', 1, ('ann', 5)),)), ('join', 1, (count,)), ('answer', 1))]
[1, 2, 1, (1,)]
>>> [rig.shown(1), rig.bag]
[None, ((1, ('chunk', (2, 2), (1, 999999), (('make', 's', (('who', 'text'), ('pay', 'int'))),), ((1, (('s', ('ann', 5)),)),))),)]
>>> [rig.do(('hear', 1, 1)), rig.shown(1), rig.check()]
[None, (2, (((5, 1),),)), ('right',)]
>>> [rig.do(('deal', (('put', 's', 2, ('bob', 5)),))), rig.do(('send', 0, 2)), rig.do(('hear', 1, 3)), rig.shown(1)[0]]
[3, (2, 3), None, 2]
>>> [rig.do(('hear', 1, 2)), rig.shown(1), rig.due(1), rig.check()]
[None, (3, (((5, 2),),)), (3, (((5, 2),),)), ('right',)]
>>> [rig.do(deed) for deed in (('lose', 1), ('step', ('cut', 's', 'pay', 7)), ('send', 0, 3))]
[None, 4, (4, 5)]
>>> heard = [rig.do(('weaken', 1, 0)), rig.do(('hear', 1, 4))]
>>> [heard[-1] in ('fallen', 'down'), rig.down, rig.do(('hear', 1, 4)), rig.do(('up', 1, ('none',))), rig.check()]
[True, (1,), 'down', 'up', ('right',)]
>>> [rig.settle() > 0, rig.shown(1), rig.check(), len(rig.entries)]
[True, (4, (((7, 2),),)), ('right',), 4]

Section 16:

>>> from toldmoment.desk import Desk
>>> from toldmoment.journals import journal, read_journal
>>> from toldmoment.scripts import played
>>> lines = ['step make s who text pay int', "deal put s 1 'ann 5", 'join 1 count s pay ; rows s who', 'answer 1', 'hear 1 1', 'show 1', 'check']
>>> played('\\n'.join(['rig 1'] + lines))
('1', '2', '1', '1', 'ok', "2 | 5 1 | 1 'ann", 'right')
>>> desk = Desk(1)
>>> [desk.say(line) for line in lines[:3]]
['1', '2', '1']
>>> [desk.say(line) for line in ('show 1', 'hear 1 1', 'up 1', 'step cut s pay 7', 'answer 1', 'hear 1 1', 'show 1')]
['none', '? NoLetter', '? Awake', '3', '1', 'ok', "3 | 7 1 | 1 'ann"]
>>> [desk.tried(("deal put s 2 'bob", 'send 0 3', 'bag', 'hear 1 2', 'show 1')), desk.say('bag'), desk.undo(), desk.undo()]
[('4', '2 3', '1 2 3', 'ok', "4 | 7 2 | 1 'ann ; 2 'bob"), '1', None, None]
>>> [desk.redo(), desk.lines[-2:], desk.answers[-1], desk.copy() == desk]
[None, ('hear 1 1', 'show 1'), "3 | 7 1 | 1 'ann", True]
>>> [journal(desk).split('\\n')[:2], read_journal(journal(desk)) == desk, journal(Desk(4)), played('rig 2')]
[['rig 1', 'step make s who text pay int'], True, 'rig 4', ()]
"""

import doctest

from samples import Case
from toldmoment.books import Book
from toldmoment.consumers import joined
from toldmoment.copies import copied
from toldmoment.deltas import Kept
from toldmoment.disks import Disk
from toldmoment.errors import BadKind, BadScript, BadStep, BadValue, BadValues, Clash, Lacks, NoBook, NoRow
from toldmoment.histories import seen, state_at
from toldmoment.inboxes import Inbox
from toldmoment.letters import partition_of
from toldmoment.maps import back, rows_back
from toldmoment.rig import Rig
from toldmoment.schemas import stepped
from toldmoment.scripts import played
from toldmoment.source import founded
from toldmoment.states import dealt, empty_state
from toldmoment.views import viewed

CATS = (("cats", (("name", "text"), ("age", "int"))),)
BOTH = (*CATS, ("dogs", (("name", "text"),)))


def load_tests(loader, tests, pattern):
    tests.addTests(doctest.DocTestSuite(optionflags=doctest.DONT_ACCEPT_TRUE_FOR_1))
    return tests


class Parentheses(Case):

    def test_beneath_section_4(self):
        self.refused(BadKind, "age", stepped, CATS, ("turn", "cats", "age", "int", 0, None))
        unite = ("unite", "cats", "cats", "x")
        self.refused_with(BadStep, unite, stepped, CATS, unite)
        self.refused(BadValue, "x", stepped, CATS, ("cut", "cats", "age", "x"))

    def test_beneath_section_5(self):
        empty = empty_state(BOTH)
        self.refused(NoRow, ("cats", 1), dealt, BOTH, empty, (("drop", "cats", 1),))
        self.refused(BadValues, (7,), dealt, BOTH, empty, (("put", "dogs", 1, (7,)),))

    def test_beneath_section_6(self):
        schema = (("goods", (("name", "text"), ("price", "int"))),)
        apart = ("part", "goods", "costs", ("price",), "goods")
        self.same(stepped(schema, apart), (("costs", (("price", "int"),)), ("goods", (("name", "text"),))))
        self.same(rows_back(schema, apart, (("costs", (9,)), ("goods", None))), (("goods", (None, 9)),))
        dear = ("turn", "goods", "price", "text", None, 0)
        self.same(back(schema, dear, (("goods", ((1, ("ham", "05")),)),)), (("goods", ((1, ("ham", 0)),)),))

    def test_beneath_section_7(self):
        entries = (("step", ("make", "t", (("a", "int"), ("b", "text")))), ("step", ("split", "t", "b", "c", "d", "-")),
                   ("deal", (("put", "t", 1, (6, "p", "q")),)), ("step", ("cut", "t", "a", 0)))
        self.same(state_at(entries, 3), (("t", ((1, (6, "p", "q")),)),))
        self.same(seen(entries, 4, 1)[1], (("t", ((1, (0, "p-q")),)),))

    def test_beneath_section_8(self):
        disk = Disk(("old one",))
        disk.write(0, "new")
        self.same(disk.cut((3,)).blocks, ("new one",))
        disk.sync()
        self.same(Disk(("new one",)).blocks, ("new one",))
        torn = Disk(("new one",))
        torn.write(0, "newer text")
        self.same(torn.cut((5,)).blocks, ("newerne",))
        self.refused(NoBook, None, Book, Disk(("old", "", "x")))

    def test_beneath_section_9(self):
        self.same([partition_of(key, 2) for key in (1, 2, 3)], [0, 1, 0])

    def test_beneath_section_10(self):
        inbox = Inbox(2, 1)
        inbox.hear(("deal", 1, 3, 2, (("drop", "a", 2),)))
        inbox.hear(("mark", 0, 3, 2))
        self.refused(Clash, (1, 4), inbox.hear, ("mark", 1, 4, 2))

    def test_beneath_section_11(self):
        source = founded(Disk(), 1)
        source.step(("make", "a", (("x", "int"),)))
        source.deal((("put", "a", 1, (5,)), ("put", "a", 4, (7,))))
        chunk = source.chunk(1, 999999)
        source.chunk_row(chunk)
        deals = ((("put", "a", 1, (9,)), ("put", "a", 2, (3,))), (("drop", "a", 4),))
        source.deal(deals[0])
        source.chunk_row(chunk)
        source.deal(deals[1])
        source.chunk_row(chunk)
        letter = source.chunk_end(chunk)
        self.same(letter, ("chunk", (2, 4), (1, 999999), source.steps, ((1, (("a", (5,)),)), (2, (("a", (3,)),)))))
        self.same(copied((letter,), tuple(("deal", changes) for changes in deals)), (4, source.steps, source.schema, source.state))
        left = ("chunk", (2, 2), (1, 2), source.steps, ((1, (("a", (5,)),)),))
        self.refused(Lacks, 3, copied, (left,), ())

    def test_beneath_section_12(self):
        schema, goods = (("goods", (("name", "text"), ("price", "int"))),), ((1, ("ham", 5)), (2, ("tea", None)), (7, (None, 3)))
        for sign, keys in (("<", (1,)), (">", (2,)), ("=", ())):
            told = viewed(schema, (("goods", goods),), ("rows", "goods", (), ("name", sign, "sugar")))
            self.same(told, tuple((key, ()) for key in keys))

    def test_beneath_section_13(self):
        schema = (("goods", (("name", "text"),)), ("sold", (("what", "int"), ("many", "int"))))
        kept = Kept(schema, (("goods", ()), ("sold", ((4, (9, 1)),))), ("pair", "sold", "what", "goods"))
        own = kept.rows(4)
        kept.change(9, (("goods", ("salt",)), ("sold", None)))
        self.same((kept.tells, kept.rows(4)), (((4, (9, 1), ("salt",)),), own))
        total = Kept(schema, (("goods", ()), ("sold", ((3, (9, None)),))), ("sum", "sold", "many", "what"))
        self.same(total.tells, ((9, 0),))

    def test_beneath_section_14(self):
        source, disk = founded(Disk(), 1), Disk()
        source.step(("make", "staff", (("who", "text"), ("pay", "int"))))
        source.deal((("put", "staff", 1, ("ann", 5)), ("put", "staff", 2, ("bo-b", 7))))
        one = joined(disk, 1, 1, (("rows", "staff", ("who", "pay"), None),))
        chunk = source.chunk(1, 999999)
        source.chunk_row(chunk)
        source.deal((("put", "staff", 1, ("ann", 9)),))
        source.chunk_row(chunk)
        source.chunk_row(chunk)
        for letter in (source.chunk_end(chunk), *source.letters(0, 2)):
            one.hear(letter)
        self.same((one.moment, one.tables()), (3, (((1, ("ann", 9)), (2, ("bo-b", 7))),)))
        source.step(("split", "staff", "who", "a", "b", "-"))
        source.step(("cut", "staff", "pay", 6))
        for letter in source.letters(0, 3):
            one.hear(letter)
        self.same((one.moment, one.tables()), (5, (((1, ("ann", 6)), (2, ("bo-b", 6))),)))
        # A letter heard twice, one time at once behind the other, is heard once.
        shown, blocks = one.tables(), disk.blocks
        one.hear(letter)
        self.same((one.tables(), disk.blocks), (shown, blocks))

    def test_beneath_section_15(self):
        rig = Rig(1)
        for deed in (("step", ("make", "s", (("pay", "int"),))), ("join", 1, (("count", "s", "pay"),)), ("answer", 1), ("hear", 1, 1),
                     ("deal", (("put", "s", 1, (5,)),)), ("send", 0, 1)):
            rig.do(deed)
        self.same([rig.do(("hear", 1, 3)), rig.shown(1)[0], rig.do(("hear", 1, 2)), rig.shown(1)[0]], [None, 1, None, 2])
        rig.do(("step", ("cut", "s", "pay", 7)))
        self.same((rig.settle() > 0, rig.shown(1)), (True, (3, (((7, 1),),))))

    def test_beneath_section_16(self):
        self.refused(BadScript, 2, played, "rig 1\nhear 1")
        answers = played("rig 1\nstep make s pay int\ndeal put s 1 5\njoin 1 count s pay\nsettle\nstep cut s pay 7\nsettle\nshow 1")
        self.same(answers[-1], "3 | 7 1")
