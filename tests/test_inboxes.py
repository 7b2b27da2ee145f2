"""Section 10: inboxes, that hand out whole moments alone."""

from models import any_story
from samples import ANYTHING, Case, NO_CHANGES, NO_STEPS, chances
from toldmoment.errors import BadLetter, BadMany, BadMoment, BadPartition, Clash, MomentError
from toldmoment.inboxes import Inbox
from toldmoment.letters import letters_of

GONE, CALL = ("gone", "a"), ("call", "a", "b")
NO_MANY = (0, 5, -1, True, False, None, "1", "", [], (), (1,), {}, 1.0)
NO_INTEGERS = (-1, True, False, None, "0", "", [], (), (0,), {}, 1.0)


def drops(*keys):
    return tuple(("drop", "a", key) for key in keys)


def heard(many, moment, *letters):
    inbox = Inbox(many, moment)
    for letter in letters:
        assert inbox.hear(letter) is None
    return inbox


def told_of(inbox):
    """All that can be asked of an inbox."""
    return (inbox.many, inbox.moment, [inbox.reach(partition) for partition in range(inbox.many)], inbox.newest(),
            inbox.whole(), inbox.asks())


class New(Case):

    def test_what_it_has(self):
        for many in (1, 2, 3, 4):
            for moment in (0, 1, 77):
                self.same(told_of(Inbox(many, moment)), (many, moment, [moment] * many, moment, (), ()))

    def test_what_is_refused_in_its_sequence(self):
        for many in NO_MANY:
            self.refused_with(BadMany, many, Inbox, many, None)
            self.refused_with(BadMany, many, Inbox, many, 0)
        for moment in NO_INTEGERS:
            self.refused_with(BadMoment, moment, Inbox, 2, moment)

    def test_by_name(self):
        inbox = Inbox(moment=3, many=2)
        inbox.hear(letter=("step", 1, 4, 3, GONE))
        self.same((inbox.moment, inbox.many, inbox.reach(partition=1)), (3, 2, 4))
        inbox.done(moment=3)


class Heard(Case):

    def test_what_is_no_letter(self):
        wrong = [*ANYTHING]
        for word, more in (("deal", (drops(1),)), ("step", (GONE,)), ("mark", ())):
            wrong.extend([(word, 0, 3, 2, *more, None), (word, 0, 3), (word, 0, 3, 2, *more)[:-1], [word, 0, 3, 2, *more],
                          (word.upper(), 0, 3, 2, *more), ([word], 0, 3, 2, *more), (None, 0, 3, 2, *more),
                          (word, 0, 3, 4, *more), (word, 0, 0, 0, *more), (word, 0, 2, -1, *more), (word, 0, -1, -2, *more)])
            wrong.extend([(word, partition, 3, 2, *more) for partition in (*NO_INTEGERS, 2, 4)])
            wrong.extend([(word, 0, moment, 0, *more) for moment in NO_INTEGERS])
            wrong.extend([(word, 0, 3, before, *more) for before in NO_INTEGERS])
        wrong.extend([("deal", 0, 3, 3, drops(1)), ("step", 0, 3, 3, GONE), ("mark", 0, 3, 2, ()), ("mark", 0, 0, 0),
                      ("deal", 0, 3, 2, ()), ("deal", 0, 3, 2, drops(2)), ("deal", 0, 3, 2, drops(1, 2)),
                      ("deal", 1, 3, 2, drops(1)), ("deal", 0, 3, 2, drops(1) * 13), ("deal", 0, 3, 2, list(drops(1))),
                      ("deal", 0, 3, 2, GONE), ("step", 0, 3, 2, drops(1)), ("old", 0, 3), ("old", 0, 3, 2), ("mark", 0, 3, 2, GONE),
                      ("chunk", (0, 0), (1, 999999), (), ())])
        wrong.extend([("deal", 0, 3, 2, (change,)) for change in NO_CHANGES])
        wrong.extend([("step", 0, 3, 2, step) for step in NO_STEPS])
        for moment in (0, 9):
            inbox = heard(2, moment)
            for letter in wrong:
                with self.subTest(repr(letter)):
                    self.refused_with(BadLetter, letter, inbox.hear, letter)
            self.same(told_of(inbox), told_of(Inbox(2, moment)))

    def test_letters_of_all_kinds_are_taken(self):
        for letter in (("deal", 0, 1, 0, drops(1)), ("deal", 1, 10 ** 9, 0, drops(2, 4, 2)), ("deal", 0, 3, 2, drops(1) * 12),
                       ("step", 1, 1, 0, GONE), ("mark", 1, 1, 1), ("mark", 0, 5, 0), ("mark", 0, 5, 5),
                       ("deal", 0, 2, 1, (("put", "zz", 999999, (None, "x", 1)),))):
            with self.subTest(letter):
                self.assertIsNone(Inbox(2, 0).hear(letter))

    def test_a_letter_at_or_below_the_moment_is_not_held(self):
        inbox = heard(2, 5, ("deal", 0, 5, 4, drops(1)), ("step", 1, 4, 0, GONE), ("mark", 0, 5, 5), ("mark", 1, 3, 1))
        self.same(told_of(inbox), told_of(Inbox(2, 5)))
        inbox.hear(("step", 0, 5, 4, GONE))
        inbox.hear(("deal", 0, 6, 2, drops(1)))
        self.same((inbox.reach(0), inbox.reach(1)), (6, 5))

    def test_a_letter_heard_twice_is_heard_once(self):
        letters = (("deal", 0, 2, 0, drops(1)), ("mark", 1, 3, 0), ("mark", 0, 3, 2))
        self.same(told_of(heard(2, 0, *letters, *letters, *letters[::-1])), told_of(heard(2, 0, *letters)))

    def test_reach(self):
        first, second, third = ("deal", 0, 2, 0, drops(1)), ("deal", 0, 5, 2, drops(3)), ("deal", 0, 6, 5, drops(1))
        for letters, reach in (((first,), 2), ((second,), 0), ((second, third), 0), ((first, third), 2), ((first, second), 5),
                               ((third, second, first), 6), ((second, first, third), 6)):
            self.same(heard(1, 0, *letters).reach(0), reach)
        self.same(heard(1, 2, second).reach(0), 5)
        self.same(heard(1, 3, second, third).reach(0), 6)
        self.same(heard(1, 1, second).reach(0), 1)
        self.same(heard(1, 0, ("mark", 0, 4, 0)).reach(0), 4)
        self.same(heard(1, 0, ("mark", 0, 4, 2)).reach(0), 0)
        self.same(heard(1, 0, ("mark", 0, 4, 2), first).reach(0), 4)
        self.same(heard(1, 0, ("mark", 0, 4, 4), first).reach(0), 2)
        self.same(heard(1, 0, ("mark", 0, 4, 4), ("mark", 0, 4, 2), first).reach(0), 4)
        self.same(heard(1, 0, ("deal", 0, 5, 3, drops(1)), ("deal", 0, 5, 0, drops(1))).reach(0), 5)
        self.same(heard(1, 0, ("mark", 0, 3, 0), ("deal", 0, 5, 2, drops(1))).reach(0), 5)

    def test_partitions_that_are_none(self):
        for many in (1, 2, 3, 4):
            inbox = heard(many, 0)
            for partition in (*NO_INTEGERS, many, 4):
                self.refused_with(BadPartition, partition, inbox.reach, partition)

    def test_whole(self):
        inbox = heard(3, 0, ("step", 0, 1, 0, GONE), ("step", 1, 1, 0, GONE), ("deal", 1, 2, 1, drops(2, 5, 2)),
                      ("deal", 0, 2, 1, drops(4)))
        self.same((inbox.newest(), inbox.whole()), (0, ()))
        inbox.hear(("step", 2, 1, 0, GONE))
        self.same((inbox.newest(), inbox.whole()), (1, ((1, ("step", GONE)),)))
        inbox.hear(("deal", 2, 3, 1, drops(3)))
        self.same((inbox.newest(), inbox.whole()), (2, ((1, ("step", GONE)), (2, ("deal", drops(4, 2, 5, 2))))))
        inbox.hear(("mark", 0, 9, 2))
        inbox.hear(("mark", 1, 5, 2))
        self.same(inbox.newest(), 3)
        self.same(inbox.whole()[2:], ((3, ("deal", drops(3))),))
        inbox.hear(("mark", 2, 9, 3))
        self.same((inbox.newest(), len(inbox.whole())), (5, 3))

    def test_of_two_letters_of_one_moment_one_is_told(self):
        inbox = heard(1, 0, ("deal", 0, 3, 2, drops(1)), ("deal", 0, 3, 1, drops(1)), ("deal", 0, 3, 0, drops(1)))
        self.same(inbox.whole(), ((3, ("deal", drops(1))),))

    def test_done(self):
        inbox = heard(2, 0, ("step", 0, 1, 0, GONE), ("step", 1, 1, 0, GONE), ("deal", 0, 3, 1, drops(1)), ("mark", 1, 4, 1))
        self.same(inbox.newest(), 3)
        for moment in (*NO_INTEGERS, 4, 5):
            self.refused_with(BadMoment, moment, inbox.done, moment)
        inbox.done(0)
        self.same((inbox.moment, len(inbox.whole())), (0, 2))
        inbox.done(2)
        self.same((inbox.moment, inbox.whole(), inbox.newest()), (2, ((3, ("deal", drops(1))),), 3))
        for moment in (0, 1, 4, True):
            self.refused_with(BadMoment, moment, inbox.done, moment)
        inbox.done(3)
        self.same(told_of(inbox), (2, 3, [3, 4], 3, (), ((0, 3),)))
        inbox.hear(("mark", 0, 4, 3))
        inbox.done(4)
        self.same(told_of(inbox), told_of(Inbox(2, 4)))

    def test_what_is_let_go_clashes_no_more(self):
        inbox = heard(1, 0, ("deal", 0, 1, 0, drops(1)), ("deal", 0, 4, 1, drops(1)))
        self.refused(Clash, (0, 1), inbox.hear, ("step", 0, 1, 0, GONE))
        inbox.done(1)
        self.assertIsNone(inbox.hear(("step", 0, 1, 0, GONE)))
        self.refused(Clash, (0, 3), inbox.hear, ("step", 0, 3, 0, GONE))
        self.same(inbox.whole(), ((4, ("deal", drops(1))),))

    def test_asks(self):
        inbox = heard(3, 2)
        self.same(inbox.asks(), ())
        inbox.hear(("deal", 1, 5, 4, drops(2)))
        self.same(inbox.asks(), ((0, 2), (1, 2), (2, 2)))
        inbox.hear(("mark", 1, 4, 2))
        self.same(inbox.asks(), ((0, 2), (2, 2)))
        inbox.hear(("mark", 0, 6, 0))
        self.same(inbox.asks(), ((1, 5), (2, 2)))
        inbox.hear(("mark", 2, 6, 2))
        inbox.hear(("mark", 1, 6, 5))
        self.same((inbox.asks(), inbox.newest()), ((), 6))
        inbox.done(6)
        self.same(inbox.asks(), ())


class Clashes(Case):

    def pair(self, held, letter):
        inbox = heard(2, 0, held)
        ahead = told_of(inbox)
        try:
            inbox.hear(letter)
        except Clash as error:
            self.same(error.value, (letter[1], letter[2]))
            self.same(told_of(inbox), ahead)
            return True
        return False

    def clash(self, one, other):
        with self.subTest(one=one, other=other):
            self.assertTrue(self.pair(one, other))
            self.assertTrue(self.pair(other, one))

    def both(self, one, other):
        with self.subTest(one=one, other=other):
            self.assertFalse(self.pair(one, other))
            self.assertFalse(self.pair(other, one))

    def test_of_one_partition_and_one_moment(self):
        deal, step = ("deal", 0, 3, 2, drops(1)), ("step", 0, 3, 2, GONE)
        self.clash(deal, ("deal", 0, 3, 2, drops(3)))
        self.clash(deal, ("deal", 0, 3, 2, drops(1, 1)))
        self.clash(("deal", 0, 3, 0, drops(1, 3)), ("deal", 0, 3, 2, drops(3, 1)))
        self.clash(deal, step)
        self.clash(step, ("step", 0, 3, 1, CALL))
        self.both(deal, ("deal", 0, 3, 0, drops(1)))
        self.both(step, ("step", 0, 3, 1, GONE))
        self.both(deal, ("mark", 0, 3, 3))
        self.both(step, ("mark", 0, 3, 3))

    def test_a_letter_where_another_one_tells_that_there_is_none(self):
        deal, step = ("deal", 0, 3, 2, drops(1)), ("step", 0, 3, 2, GONE)
        for letter in (deal, step):
            self.clash(letter, ("deal", 0, 5, 2, drops(1)))
            self.clash(letter, ("step", 0, 4, 0, GONE))
            self.clash(letter, ("mark", 0, 5, 2))
            self.clash(letter, ("mark", 0, 3, 2))
            self.clash(letter, ("mark", 0, 3, 0))
            self.both(letter, ("deal", 0, 5, 3, drops(1)))
            self.both(letter, ("deal", 0, 5, 4, drops(1)))
            self.both(letter, ("mark", 0, 5, 3))
            self.both(letter, ("mark", 0, 2, 0))
            self.both(letter, ("mark", 0, 2, 2))

    def test_marks_are_true_beside_marks(self):
        for one in (("mark", 0, 3, 0), ("mark", 0, 3, 3), ("mark", 1, 3, 2)):
            for other in (("mark", 0, 3, 1), ("mark", 0, 4, 4), ("mark", 1, 3, 0), ("mark", 0, 2, 1)):
                self.both(one, other)

    def test_of_another_partition(self):
        deal, step = ("deal", 0, 3, 2, drops(1)), ("step", 0, 3, 2, GONE)
        self.both(deal, ("deal", 1, 3, 2, drops(2)))
        self.both(deal, ("deal", 1, 5, 2, drops(2)))
        self.both(deal, ("mark", 1, 5, 0))
        self.both(step, ("step", 1, 3, 0, GONE))
        self.both(step, ("step", 1, 4, 0, CALL))
        self.both(step, ("mark", 1, 3, 0))
        self.clash(step, ("step", 1, 3, 2, CALL))
        self.clash(deal, ("step", 1, 3, 2, GONE))
        self.clash(step, ("deal", 1, 3, 0, drops(2)))

    def test_all_pairs_over_few_moments(self):
        letters = []
        for partition in (0, 1):
            for moment in (1, 2, 3):
                for before in range(moment):
                    letters.extend([("deal", partition, moment, before, drops(partition + 1)),
                                    ("deal", partition, moment, before, drops(partition + 3)),
                                    ("step", partition, moment, before, GONE), ("step", partition, moment, before, CALL),
                                    ("mark", partition, moment, before)])
                letters.append(("mark", partition, moment, moment))
        for one in letters:
            for other in letters:
                self.assertEqual(self.pair(one, other), self.cannot_be(one, other), (one, other))

    def cannot_be(self, one, other):
        """By the moments at which each one tells that its partition has nothing, and those at which it tells something."""
        nothing = [set(range(its[3] + 1, its[2] + (its[0] == "mark"))) for its in (one, other)]
        something = [set() if its[0] == "mark" else {its[2]} for its in (one, other)]
        if one[1] == other[1] and (nothing[0] & something[1] or nothing[1] & something[0]):
            return True
        if not something[0] & something[1] or (one[0], one[4]) == (other[0], other[4]):
            return False
        return one[1] == other[1] or "step" in (one[0], other[0])

    def test_any_letter_that_is_held_may_clash_and_nothing_is_changed(self):
        letters = [("step", 0, 1, 0, GONE), ("deal", 0, 4, 1, drops(1)), ("mark", 0, 8, 4), ("step", 1, 1, 0, GONE),
                   ("deal", 1, 6, 1, drops(2))]
        for letter in (("deal", 0, 1, 0, drops(1)), ("deal", 0, 3, 2, drops(1)), ("deal", 0, 8, 7, drops(1)),
                       ("step", 0, 6, 5, GONE), ("step", 1, 4, 1, GONE), ("mark", 1, 6, 5), ("mark", 0, 4, 3),
                       ("deal", 1, 9, 5, drops(2)), ("deal", 0, 9, 0, drops(1))):
            for held in (letters, letters[::-1]):
                with self.subTest(letter):
                    inbox = heard(2, 0, *held)
                    ahead = told_of(inbox)
                    self.refused(Clash, (letter[1], letter[2]), inbox.hear, letter)
                    self.same(told_of(inbox), ahead)

    def test_what_is_no_letter_comes_ahead_of_a_clash(self):
        inbox = heard(2, 0, ("deal", 0, 3, 2, drops(1)))
        letter = ("deal", 0, 3, 2, drops(2))
        self.refused_with(BadLetter, letter, inbox.hear, letter)


class Stories(Case):

    def known(self, letters, moment, partition):
        """Reach, told by whether each moment's letter, or that there is none, is known."""
        covered = set()
        for letter in letters:
            if letter[1] == partition:
                covered |= set(range(letter[3] + 1, letter[2] + 1))
        while moment + 1 in covered:
            moment += 1
        return moment

    def truth(self, story, inbox, low):
        """What whole tells is what the history has there; nothing lies between but deals without changes."""
        whole = dict(inbox.whole())
        self.same(list(whole), sorted(whole))
        for moment in range(1, inbox.newest() + 1):
            entry = story.entries[moment - 1]
            if moment <= low or entry == ("deal", ()):
                self.assertNotIn(moment, whole)
            elif entry[0] == "step":
                self.same(whole[moment], entry)
            else:
                self.assertEqual(whole[moment][0], "deal")
                self.same(sorted(whole[moment][1], key=lambda change: ((change[2] - 1) % inbox.many)), list(whole[moment][1]))
                for key in {change[2] for change in (*entry[1], *whole[moment][1])}:
                    self.same([change for change in whole[moment][1] if change[2] == key],
                              [change for change in entry[1] if change[2] == key])
        self.assertTrue(all(low < moment <= inbox.newest() for moment in whole))

    def sent(self, chance, story, low, many):
        """Letters and marks above a moment, in any sequence, some twice; marks of any moments."""
        letters = []
        for partition in range(many):
            mine = letters_of(story.entries[low:], low, partition, many)
            letters.extend(mine)
            for moment in range(low + 1, story.moment + 1):
                before = max([low] + [letter[2] for letter in mine if letter[2] <= moment])
                letters.append(("mark", partition, moment, chance.randint(before, moment)))
        letters.extend(chance.sample(letters, len(letters) // 3))
        chance.shuffle(letters)
        return letters

    def test_letters_in_any_sequence_some_lost_some_twice_till_nothing_lacks(self):
        for chance in chances(150):
            story, many = any_story(chance, chance.randint(1, 14)), chance.randint(1, 4)
            low = chance.randint(0, story.moment - 1)
            inbox, all_heard = Inbox(many, low), []
            for letter in self.sent(chance, story, low, many):
                if chance.random() < 0.3:
                    continue
                inbox.hear(letter)
                all_heard.append(letter)
                for partition in range(many):
                    self.same(inbox.reach(partition), self.known(all_heard, inbox.moment, partition))
                self.same(inbox.newest(), min(inbox.reach(partition) for partition in range(many)))
                self.truth(story, inbox, inbox.moment)
                most = max([letter[2] for letter in all_heard if letter[2] > inbox.moment], default=inbox.moment)
                self.same(inbox.asks(), tuple((partition, inbox.reach(partition)) for partition in range(many)
                                              if inbox.reach(partition) < most))
                if chance.random() < 0.2:
                    ahead = inbox.newest()
                    inbox.done(chance.randint(inbox.moment, ahead))
                    self.same(inbox.newest(), ahead)
            for partition in range(many):
                above = inbox.reach(partition)
                again = letters_of(story.entries[above:], above, partition, many)
                for letter in (*again, ("mark", partition, story.moment, again[-1][2] if again else above)):
                    inbox.hear(letter)
            self.same((inbox.newest(), inbox.asks()), (story.moment, ()))
            self.truth(story, inbox, inbox.moment)
            self.same(told_of(inbox), told_of(inbox))

    def test_what_is_asked_for_is_sent_again_till_nothing_lacks(self):
        for chance in chances(100):
            story, many = any_story(chance, 12), chance.randint(1, 4)
            inbox = Inbox(many, 0)
            for letter in self.sent(chance, story, 0, many):
                if chance.random() < 0.4:
                    inbox.hear(letter)
            inbox.hear(("mark", 0, 12, 12))
            rounds = 0
            while inbox.asks():
                rounds += 1
                self.assertLess(rounds, 100)
                for partition, above in inbox.asks():
                    last = max([0] + [letter[2] for letter in letters_of(story.entries, 0, partition, many)])
                    again = letters_of(story.entries[above:], above, partition, many)
                    for letter in (*again, ("mark", partition, 12, max(last, above))):
                        if chance.random() < 0.5:
                            inbox.hear(letter)
            self.same(inbox.newest(), 12)
            self.truth(story, inbox, 0)
            inbox.done(12)
            self.same(told_of(inbox), told_of(Inbox(many, 12)))

    def test_in_any_sequence_the_same(self):
        for chance in chances(60):
            story, many = any_story(chance, 8), chance.randint(1, 4)
            letters = self.sent(chance, story, 0, many)
            letters = letters[:len(letters) * 2 // 3]
            one = told_of(heard(many, 0, *letters))
            chance.shuffle(letters)
            self.same(told_of(heard(many, 0, *letters)), one)


class Unaltered(Case):

    def test_nothing_that_was_handed_in_is_altered(self):
        letter = ["deal", 0, 3, 2, [["drop", "a", 1]]]
        inbox = Inbox(1, 0)
        for value in (letter, tuple(letter), (*letter[:4], tuple(letter[4]))):
            with self.assertRaises(MomentError):
                inbox.hear(value)
        for function in (inbox.reach, inbox.done):
            with self.assertRaises(MomentError):
                function(letter)
        self.assertEqual(letter, ["deal", 0, 3, 2, [["drop", "a", 1]]])
