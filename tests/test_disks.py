"""Section 8: disks on which writes wait, and what is found behind a cut."""

from samples import ANYTHING, Case, chances
from toldmoment.disks import Disk
from toldmoment.errors import BadBlock, BadDisk, BadFates, BadNumber, BadPlace, Fallen, MomentError

LONG = "".join(chr(32 + at % 95) for at in range(120))
NO_BLOCKS = (None, True, 0, 1, [], (), ("a",), {}, "\n", "\t", "a\x7f", "\x1f", "\xe9", "x" * 121, LONG + " ", b"a", 1.0)
NO_PLACES = (-1, 1000, 1001, True, False, None, "0", "", [], (), (0,), {}, 1.0)


class New(Case):

    def test_what_it_has(self):
        disk = Disk()
        self.same((disk.blocks, disk.waiting, disk.left), ((), (), None))
        disk = Disk(("a", "", "b"), 7)
        self.same((disk.blocks, disk.waiting, disk.left), (("a", "", "b"), (), 7))
        self.same((disk.read(0), disk.read(1), disk.read(2), disk.read(3), disk.read(999)), ("a", "", "b", "", ""))

    def test_blocks_are_told_up_to_the_last_one_that_holds_signs(self):
        self.same(Disk(("a", "", "")).blocks, ("a",))
        self.same(Disk(("", "", "")).blocks, ())
        self.same(Disk(("", "a", "")).blocks, ("", "a"))
        self.same(Disk((" ",)).blocks, (" ",))
        full = tuple(str(at) for at in range(1000))
        self.same(Disk(full).blocks, full)
        self.same(Disk(("",) * 1000).blocks, ())
        self.same(Disk((LONG, LONG[:60])).blocks, (LONG, LONG[:60]))

    def test_what_is_refused_in_its_sequence(self):
        for value in ANYTHING:
            if not isinstance(value, tuple):
                self.refused(BadDisk, None, Disk, value)
                self.refused(BadDisk, None, Disk, value, -1)
        self.refused(BadDisk, None, Disk, ("a",) * 1001)
        self.refused(BadDisk, None, Disk, (None,) * 1001, None)
        self.refused(BadDisk, None, Disk, ["a"])
        for block in NO_BLOCKS:
            for at in (0, 1, 4):
                with self.subTest(repr(block), at=at):
                    self.refused(BadDisk, at, Disk, ("a", "", "b", "c")[:at] + (block, None, "d"))
                    self.refused(BadDisk, at, Disk, ("a", "", "b", "c")[:at] + (block,), -1)
        self.refused(BadDisk, 999, Disk, ("a",) * 999 + (1,))
        for left in (-1, 10 ** 6 + 1, True, False, "1", "", [], (), (1,), {}, 1.0):
            with self.subTest(repr(left)):
                self.refused_with(BadNumber, left, Disk, (), left)
        for left in (0, 1, 10 ** 6, None):
            self.same(Disk((), left).left, left)

    def test_by_name(self):
        self.same(Disk(left=3, blocks=("a",)).left, 3)
        self.same(Disk(blocks=("a",)).blocks, ("a",))
        self.same(Disk(left=3).blocks, ())


class Equal(Case):

    def test_blocks_and_waiting_alone(self):
        self.assertTrue(Disk(("a",), 3) == Disk(("a", ""), None))
        self.assertFalse(Disk(("a",), 3) != Disk(("a", ""), None))
        self.assertTrue(Disk(("a",)) != Disk(("b",)))
        one, other = Disk(("a",)), Disk(("a",))
        one.write(1, "b")
        self.assertFalse(one == other)
        other.write(1, "b")
        self.assertTrue(one == other)
        one.sync()
        self.assertFalse(one == other)
        self.assertFalse(one == Disk(("a",)))
        self.assertTrue(one == Disk(("a", "b")))

    def test_writes_in_another_sequence_are_not_alike(self):
        one, other = Disk(), Disk()
        for disk, places in ((one, (1, 2)), (other, (2, 1))):
            for place in places:
                disk.write(place, "a")
        self.assertFalse(one == other)

    def test_nothing_else(self):
        for value in (*ANYTHING, ("a",), "a", 0):
            self.assertFalse(Disk(("a",)) == value)
            self.assertTrue(Disk(("a",)) != value)
            self.assertFalse(value == Disk(("a",)))


class Written(Case):

    def test_what_waits_is_read_and_has_not_landed(self):
        disk = Disk(("a", "b"))
        self.assertIsNone(disk.write(1, "c"))
        self.same((disk.read(0), disk.read(1), disk.blocks, disk.waiting), ("a", "c", ("a", "b"), ((1, "c"),)))
        disk.write(999, LONG)
        disk.write(1, "")
        self.same((disk.read(1), disk.read(999), disk.read(998)), ("", LONG, ""))
        self.same((disk.blocks, disk.waiting), (("a", "b"), ((1, "c"), (999, LONG), (1, ""))))

    def test_sync_lands_all_in_sequence(self):
        disk = Disk(("a", "b"))
        for place, text in ((1, "c"), (4, "x"), (1, "d"), (0, "")):
            disk.write(place, text)
        self.assertIsNone(disk.sync())
        self.same((disk.blocks, disk.waiting), (("", "d", "", "", "x"), ()))
        self.same([disk.read(place) for place in range(6)], ["", "d", "", "", "x", ""])
        disk.write(4, "")
        disk.write(1, "")
        disk.sync()
        self.same(disk.blocks, ())
        disk.sync()
        self.same(disk.blocks, ())
        disk.write(999, "z")
        disk.sync()
        self.same((len(disk.blocks), disk.blocks[999], disk.read(999)), (1000, "z", "z"))

    def test_left_counts_writes_and_syncs(self):
        disk = Disk(("a",), 3)
        disk.write(0, "b")
        self.same(disk.left, 2)
        disk.sync()
        self.same(disk.left, 1)
        disk.write(1, "c")
        self.same(disk.left, 0)
        self.refused(Fallen, None, disk.sync)
        self.refused(Fallen, None, disk.write, 2, "d")
        self.same((disk.blocks, disk.waiting, disk.left), (("b",), ((1, "c"),), 0))
        self.same((disk.read(0), disk.read(1), disk.read(2)), ("b", "c", ""))
        self.same(disk.cut(("all",)).blocks, ("b", "c"))
        self.refused(Fallen, None, Disk((), 0).sync)
        free = Disk()
        for _ in range(5):
            free.write(0, "a")
            free.sync()
        self.assertIsNone(free.left)

    def test_what_is_refused_comes_ahead_of_falling_and_changes_nothing(self):
        for left in (0, 2, None):
            disk = Disk(("a",), left)
            for place in NO_PLACES:
                self.refused_with(BadPlace, place, disk.read, place)
                self.refused_with(BadPlace, place, disk.write, place, None)
                self.refused_with(BadPlace, place, disk.write, place, "b")
            for block in NO_BLOCKS:
                self.refused_with(BadBlock, block, disk.write, 0, block)
            self.same((disk.blocks, disk.waiting, disk.left), (("a",), (), left))

    def test_by_name(self):
        disk = Disk()
        disk.write(text="a", place=2)
        self.same(disk.read(place=2), "a")
        self.same(disk.cut(fates=(1,)).blocks, ("", "", "a"))


class Cut(Case):

    def fates(self, fates, blocks):
        disk = Disk(("old one", "second", "third"), 5)
        for place, text in ((0, "new"), (1, ""), (0, "newer text"), (4, "far")):
            disk.write(place, text)
        found = disk.cut(fates)
        self.same((found.blocks, found.waiting, found.left), (blocks, (), None))
        self.same((disk.blocks, len(disk.waiting), disk.left), (("old one", "second", "third"), 4, 1))

    def test_each_fate(self):
        self.fates(("none",) * 4, ("old one", "second", "third"))
        self.fates(("all",) * 4, ("newer text", "", "third", "", "far"))
        self.fates(("all", "none", "none", "none"), ("new", "second", "third"))
        self.fates((0, 0, 0, 0), ("old one", "second", "third"))
        self.fates((3, "none", "none", "none"), ("new one", "second", "third"))
        self.fates((2, "all", 5, 2), ("newerne", "", "third", "", "fa"))
        self.fates((1, 0, 1, 3), ("nld one", "second", "third", "", "far"))
        self.fates(("none", "none", 10, "none"), ("newer text", "second", "third"))
        self.fates(("all", "none", 1, "none"), ("new", "second", "third"))

    def test_torn_at_the_texts_length_leaves_what_stood_behind(self):
        disk = Disk(("abcdef",))
        disk.write(0, "xy")
        self.same(disk.cut((2,)).blocks, ("xycdef",))
        self.same(disk.cut(("all",)).blocks, ("xy",))
        disk = Disk(("a",))
        disk.write(0, LONG)
        self.same([disk.cut((120,)).blocks, disk.cut((119,)).blocks], [(LONG,), (LONG[:119],)])

    def test_nothing_waits(self):
        disk = Disk(("a", "b"), 0)
        found = disk.cut(())
        self.same((found.blocks, found.left), (("a", "b"), None))
        found.write(0, "c")
        self.same(disk.waiting, ())

    def test_what_is_refused(self):
        disk = Disk(("a",), 2)
        disk.write(0, "new")
        disk.write(1, "")
        good = ("all", "none")
        for fates in (*ANYTHING, (), good[:1], (*good, "all"), list(good), ("All", "none"), ("all", "some"), ("all", None),
                      ("all", True), (True, "none"), (False, "none"), (4, "none"), (-1, "none"), ("all", 1), ("all", ""),
                      ("all", ("none",)), ("all", []), (1.0, "none"), ("1", "none")):
            with self.subTest(repr(fates)):
                self.refused_with(BadFates, fates, disk.cut, fates)
        self.refused_with(BadFates, ("all",), Disk().cut, ("all",))
        self.same((disk.blocks, disk.waiting, disk.left), (("a",), ((0, "new"), (1, "")), 0))

    def test_against_a_disk_told_otherwise(self):
        for chance in chances(200):
            places = ["".join(chance.choice("ab c~") for _ in range(chance.randint(0, 6))) for _ in range(5)]
            disk, waits = Disk(tuple(places)), []
            for _ in range(chance.randint(0, 12)):
                if chance.random() < 0.2:
                    disk.sync()
                    for place, text in waits:
                        places[place] = text
                    waits = []
                else:
                    waits.append((chance.randrange(5), "".join(chance.choice("xyz") for _ in range(chance.randint(0, 6)))))
                    disk.write(*waits[-1])
                for place in range(5):
                    self.same(disk.read(place), ([text for at, text in waits if at == place] or [places[place]])[-1])
            fates = tuple(chance.choice(("all", "none", chance.randint(0, len(text)))) for _, text in waits)
            found = list(places)
            for fate, (place, text) in zip(fates, waits):
                many = {"all": None, "none": 0}.get(fate, fate)
                found[place] = text if many is None else text[:many] + found[place][many:]
            self.assertTrue(disk.cut(fates) == Disk(tuple(found)))
            self.same(disk.waiting, tuple(waits))


class Unaltered(Case):

    def test_nothing_that_was_handed_in_is_altered(self):
        blocks, fates = ["a"], ["all"]
        disk = Disk()
        disk.write(0, "a")
        for function, value in ((Disk, blocks), (Disk, (blocks,)), (disk.cut, fates), (disk.cut, (fates,)), (disk.read, fates)):
            with self.assertRaises(MomentError):
                function(value)
        self.assertEqual((blocks, fates), (["a"], ["all"]))
