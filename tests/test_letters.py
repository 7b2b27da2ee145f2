"""Section 10: partitions, and the letters of a history."""

from models import any_story
from samples import ANYTHING, Case, NO_CHANGES, NO_STEPS, chances
from toldmoment.errors import BadEntries, BadKey, BadMany, BadMoment, BadPartition, MomentError
from toldmoment.letters import letters_of, partition_of

MAKE = ("step", ("make", "a", (("x", "int"),)))


def put(key, value=5):
    return ("put", "a", key, (value,))


ENTRIES = (MAKE, ("deal", (put(1), put(2), put(3), put(1, 6))), ("deal", ()), ("deal", (("drop", "a", 2),)),
           ("deal", (put(4), put(2, 7), put(4, 8))))
NO_MANY = (0, 5, -1, True, False, None, "1", "", [], (), (1,), {}, 1.0)
NO_INTEGERS = (-1, True, False, None, "0", "", [], (), (0,), {}, 1.0)


class Partitions(Case):

    def test_each_key_goes_to_one(self):
        self.same([partition_of(key, 1) for key in (1, 2, 999999)], [0, 0, 0])
        self.same([partition_of(key, 2) for key in (1, 2, 3, 999999)], [0, 1, 0, 0])
        self.same([partition_of(key, 3) for key in (1, 2, 3, 4, 999999)], [0, 1, 2, 0, 2])
        self.same([partition_of(key, 4) for key in (1, 2, 3, 4, 5, 999999)], [0, 1, 2, 3, 0, 2])

    def test_what_is_refused_in_its_sequence(self):
        for key in (0, -1, 1000000, True, False, None, "1", [], (), (1,), {}, 1.0):
            self.refused_with(BadKey, key, partition_of, key, None)
            self.refused_with(BadKey, key, partition_of, key, 2)
        for many in NO_MANY:
            self.refused_with(BadMany, many, partition_of, 1, many)


class Letters(Case):

    def test_of_a_step_to_all_of_a_deal_to_those_of_its_keys(self):
        self.same(letters_of(ENTRIES, 0, 0, 1), (
            ("step", 0, 1, 0, MAKE[1]), ("deal", 0, 2, 1, ENTRIES[1][1]), ("deal", 0, 4, 2, ENTRIES[3][1]),
            ("deal", 0, 5, 4, ENTRIES[4][1])))
        self.same(letters_of(ENTRIES, 0, 0, 2), (("step", 0, 1, 0, MAKE[1]), ("deal", 0, 2, 1, (put(1), put(3), put(1, 6)))))
        self.same(letters_of(ENTRIES, 0, 1, 2), (
            ("step", 1, 1, 0, MAKE[1]), ("deal", 1, 2, 1, (put(2),)), ("deal", 1, 4, 2, (("drop", "a", 2),)),
            ("deal", 1, 5, 4, ENTRIES[4][1])))
        self.same(letters_of(ENTRIES, 0, 3, 4), (("step", 3, 1, 0, MAKE[1]), ("deal", 3, 5, 1, (put(4), put(4, 8)))))

    def test_from_a_later_moment_on(self):
        self.same(letters_of(ENTRIES[2:], 2, 1, 2), (("deal", 1, 4, 2, (("drop", "a", 2),)), ("deal", 1, 5, 4, ENTRIES[4][1])))
        self.same(letters_of(ENTRIES[1:3], 77, 0, 4), (("deal", 0, 78, 77, (put(1), put(1, 6))),))
        self.same(letters_of(ENTRIES[2:3], 2, 0, 1), ())
        self.same(letters_of((), 9, 0, 1), ())
        self.same(letters_of((MAKE,), 10 ** 9, 0, 1), (("step", 0, 10 ** 9 + 1, 10 ** 9, MAKE[1]),))

    def test_more_than_200_entries(self):
        entries = (("deal", (put(1),)),) * 300
        self.same([letter[2:4] for letter in letters_of(entries, 0, 0, 1)], [(at + 1, at) for at in range(300)])

    def test_histories_of_all_kinds(self):
        for chance in chances(80):
            story = any_story(chance, 15)
            first = chance.randint(0, 15)
            for many in (1, 2, 3, 4):
                told = {}
                for partition in range(many):
                    before = first
                    for word, where, moment, ahead, what in letters_of(story.entries[first:], first, partition, many):
                        self.same((where, ahead), (partition, before))
                        self.assertEqual(story.entries[moment - 1][0], word)
                        if word == "step":
                            self.same(what, story.entries[moment - 1][1])
                        else:
                            self.same(what, tuple(change for change in story.entries[moment - 1][1]
                                                  if (change[2] - 1) % many == partition))
                            self.assertTrue(what)
                        told.setdefault(moment, []).append(partition)
                        before = moment
                for moment in range(first + 1, 16):
                    word, what = story.entries[moment - 1]
                    wanted = range(many) if word == "step" else sorted({(change[2] - 1) % many for change in what})
                    self.same(told.get(moment, []), list(wanted))

    def test_what_is_refused_in_its_sequence(self):
        wrong = [entries for entries in ANYTHING if entries != ()]
        wrong.extend([list(ENTRIES), (*ENTRIES, None), (["deal", ()],), (("deal", []),), ("deal", ()), (("deal", (), 1),)])
        wrong.extend([(MAKE, ("deal", (change,))) for change in NO_CHANGES[:15]])
        wrong.extend([(("step", step), MAKE) for step in NO_STEPS[:15]])
        for entries in wrong:
            with self.subTest(repr(entries)):
                self.refused_with(BadEntries, entries, letters_of, entries, None, None, None)
                self.refused_with(BadEntries, entries, letters_of, entries, 0, 0, 1)
        for first in NO_INTEGERS:
            self.refused_with(BadMoment, first, letters_of, ENTRIES, first, None, None)
            self.refused_with(BadMoment, first, letters_of, ENTRIES, first, 0, 1)
        for many in NO_MANY:
            self.refused_with(BadMany, many, letters_of, ENTRIES, 0, None, many)
            self.refused_with(BadMany, many, letters_of, ENTRIES, 0, 0, many)
        for many in (1, 2, 3, 4):
            for partition in (*NO_INTEGERS, many, 4, 5):
                self.refused_with(BadPartition, partition, letters_of, ENTRIES, 0, partition, many)

    def test_entries_need_not_stand(self):
        self.same(letters_of((("deal", (put(1),)), ("step", ("gone", "zz"))), 0, 0, 1),
                  (("deal", 0, 1, 0, (put(1),)), ("step", 0, 2, 1, ("gone", "zz"))))

    def test_by_name_and_nothing_is_altered(self):
        self.same(partition_of(many=2, key=4), 1)
        self.same(letters_of(many=1, partition=0, first=3, entries=(MAKE,)), (("step", 0, 4, 3, MAKE[1]),))
        entries = [["step", ["gone", "a"]]]
        for value in (entries, tuple(entries), (tuple(entries[0]),)):
            with self.assertRaises(MomentError):
                letters_of(value, 0, 0, 1)
        self.assertEqual(entries, [["step", ["gone", "a"]]])
