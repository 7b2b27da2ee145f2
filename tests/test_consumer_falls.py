"""Section 14: a consumer whose disk falls at each write and sync of each deed, and of opening, cut with fates of all kinds."""

from falls import any_fates, each_fates, falls_of
from runs import Run, any_views, kept_of, shows_what_is_due
from samples import Case, chances
from toldmoment.consumers import Consumer, joined
from toldmoment.disks import Disk
from toldmoment.errors import Fallen, MomentError, NoConsumer


class ConsumerFalls(Case):

    def opened(self, disk, wanted, run):
        """Opens a consumer that is one of these, or stands between them; opened once more it is the same, and nothing is written."""
        consumer = Consumer(disk)
        kept = kept_of(consumer)
        if kept not in wanted:
            # It was found amid several moments of one deed.
            self.assertIn(kept[:3], [one[:3] for one in wanted])
            self.assertLess(-1 if wanted[0][3] is None else wanted[0][3], kept[3])
            self.assertLess(kept[3], wanted[-1][3])
        shows_what_is_due(self, consumer, run.story)
        self.same(disk.waiting, ())
        again = Disk(disk.blocks, 0)
        self.same(kept_of(Consumer(again)), kept)
        self.same((again.blocks, again.waiting), (disk.blocks, ()))
        return consumer

    def falls(self, run, blocks, deed, ahead, behind):
        """Falls in the deed, then in opening, then in opening behind that: always ahead of the deed or behind it."""
        chance, fell = run.chance, 0
        for disk, is_fallen in falls_of(blocks, deed):
            fell += is_fallen
            wanted = (ahead, behind) if is_fallen else (behind,)
            # Each sign of each write is torn in the tests of books.
            for fates in (*[(way,) * len(disk.waiting) for way in ("all", "none")], *[any_fates(chance, disk.waiting) for _ in range(8)]):
                self.opened(disk.cut(fates), wanted, run)
            for opened, _ in falls_of(disk.cut(any_fates(chance, disk.waiting)).blocks, Consumer):
                found = opened.cut(any_fates(chance, opened.waiting))
                for more, _ in falls_of(found.blocks, Consumer):
                    self.opened(more.cut(any_fates(chance, more.waiting)), wanted, run)
            if chance.random() < 0.3:
                run.settles(Consumer(disk.cut(any_fates(chance, disk.waiting))))
        return fell

    def deed_falls(self, run, blocks, deed):
        """As falls, of a deed that is done with the consumer that lies there."""
        disk = Disk(blocks)
        ahead = kept_of(Consumer(disk))
        consumer = Consumer(disk)
        deed(consumer)
        behind = kept_of(consumer)
        if ahead[3] is not None:
            self.assertGreaterEqual(behind[3], ahead[3])
        self.same(kept_of(Consumer(Disk(disk.blocks))), behind)
        return self.falls(run, blocks, lambda disk: deed(Consumer(disk)), ahead, behind)

    def standing(self, chance, many=6):
        """A run, and the blocks of a consumer that stands at its newest moment."""
        run = Run(self, chance, many=many, least=1)
        consumer, disk = run.joined(chance.randint(0, run.story.editions[-1] + 1), any_views(chance, run.story))
        run.settles(consumer)
        return run, disk.blocks

    def test_a_letter_that_leads_on(self):
        for chance in chances(4):
            run, blocks = self.standing(chance)
            moment = run.story.moment
            for _ in range(chance.randint(1, 3)):
                run.write()
            letters = [letter for partition in range(run.partitions) for letter in run.source.letters(partition, moment)]
            letters = chance.sample(letters, len(letters))
            fell = self.deed_falls(run, blocks, lambda consumer: [consumer.hear(letter) for letter in letters][:0])
            self.assertGreaterEqual(fell, 4)

    def test_the_last_letter_of_a_copy(self):
        for chance in chances(4):
            run = Run(self, chance, many=6, least=1)
            consumer, disk = run.joined(chance.randint(0, run.story.editions[-1]), any_views(chance, run.story))
            if chance.random() < 0.5:
                run.settles(consumer)
                for _ in range(3):
                    run.write()
                run.source.compact(run.story.moment)
            letters = [("old", 0, run.source.first)] if not consumer.is_copying else []
            letters += run.answers((("keys", 1, 999999),), 0.2)
            while letters[-1][2][1] < 999999:
                letters += [run.chunk(max(letters[-1][2][1] + 1, letters[-1][2][0]))]
            low = min(letter[1][0] for letter in letters if letter[0] == "chunk")
            for partition in range(run.partitions):
                letters += run.source.letters(partition, low)
            fell = self.deed_falls(run, disk.blocks, lambda consumer: [consumer.hear(letter) for letter in letters][:0])
            self.assertGreaterEqual(fell, 4)

    def test_moves(self):
        moved = 0
        for chance in chances(7):
            run, blocks = self.standing(chance)
            edition, views = chance.randint(0, run.story.editions[-1]), any_views(chance, run.story)
            if Consumer(Disk(blocks)).moment is not None:
                moved += 1
                self.assertGreaterEqual(self.deed_falls(run, blocks, lambda consumer: consumer.move(edition, views)), 4)
        self.assertGreater(moved, 2)

    def test_joining(self):
        for chance, start in zip(chances(4), ((), ("old one",), ("012 boo",), ("~" * 120,))):
            run = Run(self, chance, least=2)
            views = any_views(chance, run.story)
            made = joined(Disk(), run.partitions, 1, views)
            wanted = kept_of(made)
            for disk, is_fallen in falls_of(start, lambda disk: joined(disk, run.partitions, 1, views)):
                for fates in each_fates(chance, disk.waiting):
                    found = disk.cut(fates)
                    try:
                        consumer = Consumer(Disk(found.blocks))
                    except NoConsumer:
                        self.assertTrue(is_fallen)
                        consumer = joined(found, run.partitions, 1, views)
                        self.opened(found, (wanted,), run)
                    self.same(kept_of(consumer), wanted)

    def test_falls_one_behind_another(self):
        fell = 0
        for chance in chances(45):
            run = Run(self, chance, many=4, least=1)
            _, disk = run.joined(chance.randint(0, run.story.editions[-1]), any_views(chance, run.story, 2))
            consumer, disk, greatest = None, Disk(disk.blocks, chance.randint(0, 40)), None
            for _ in range(25):
                try:
                    if consumer is None:
                        consumer = Consumer(disk)
                        self.is_not_below(consumer, greatest, run)
                    greatest = self.one_deed(run, consumer, greatest)
                    self.same(disk.waiting, ())
                except Fallen as error:
                    self.assertIsNone(error.value)
                    fell += 1
                    consumer, disk = None, Disk(disk.cut(any_fates(chance, disk.waiting)).blocks, chance.randint(0, 40))
            consumer = Consumer(Disk(disk.cut(any_fates(chance, disk.waiting)).blocks))
            self.is_not_below(consumer, greatest, run)
            run.settles(consumer)
        self.assertGreater(fell, 60)

    def is_not_below(self, consumer, greatest, run):
        shows_what_is_due(self, consumer, run.story)
        if greatest is not None:
            self.assertIsNotNone(consumer.moment)
            self.assertGreaterEqual(consumer.moment, greatest)

    def one_deed(self, run, consumer, greatest):
        """Does something; the greatest moment that is shown then."""
        chance = run.chance
        way = chance.random()
        if way < 0.3:
            run.write()
        elif way < 0.4:
            run.source.compact(chance.randint(run.source.first, run.story.moment))
        elif way < 0.5 and consumer.moment is not None:
            consumer.move(chance.randint(0, run.story.editions[consumer.moment]), any_views(chance, run.story, 2))
        else:
            for letter in run.answers(consumer.asks(), 0.1):
                for its in (letter, chance.choice(run.bag)):
                    consumer.hear(its)
                    self.is_not_below(consumer, greatest, run)
                    greatest = consumer.moment
        return consumer.moment

    def test_of_what_is_refused_nothing_is_written(self):
        run, blocks = self.standing(chances(1)[0])
        disk = Disk(blocks, 0)
        consumer = Consumer(disk)
        for deed in (lambda: consumer.hear(None), lambda: consumer.move(99, ()), lambda: consumer.move(0, ()), lambda: joined(disk, 1, 0, ())):
            with self.assertRaises(MomentError) as caught:
                deed()
            self.assertNotIsInstance(caught.exception, Fallen)
        for letter in (run.chunk(), ("old", 0, 0), *run.source.letters(0, 0)):
            consumer.hear(letter)
        self.same((disk.blocks, disk.waiting), (blocks, ()))
