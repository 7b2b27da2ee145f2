"""Section 9: a source whose disk falls at each write and sync of each deed, and of opening, cut with fates of all kinds."""

from falls import any_fates, each_fates, falls_of
from models import Story, any_deal, any_next_step, any_story
from samples import Case, chances
from test_source import lead, source_of, told_of, weight
from toldmoment.disks import Disk
from toldmoment.errors import Fallen, NoRoom, NoSource
from toldmoment.source import Source, founded


class SourceFalls(Case):

    def opened(self, disk, wanted):
        """Opens a source that tells one of these; opened once more it tells the same, and nothing is written."""
        source = Source(disk)
        told = told_of(source)
        self.assertIn(told, wanted)
        self.same(disk.waiting, ())
        again = Disk(disk.blocks, 0)
        self.same(told_of(Source(again)), told)
        self.same((again.blocks, again.waiting), (disk.blocks, ()))
        return source

    def falls(self, chance, blocks, deed, ahead, behind):
        """Falls in the deed, then in opening, then in opening behind that: always ahead of the deed or behind it."""
        fell = 0
        for disk, is_fallen in falls_of(blocks, deed):
            fell += is_fallen
            wanted = (ahead, behind) if is_fallen else (behind,)
            for fates in each_fates(chance, disk.waiting):
                source = self.opened(disk.cut(fates), wanted)
                self.same(source.deal(()), source.moment)
            for opened, _ in falls_of(disk.cut(any_fates(chance, disk.waiting)).blocks, Source):
                found = opened.cut(any_fates(chance, opened.waiting))
                for more, _ in falls_of(found.blocks, Source):
                    self.opened(more.cut(any_fates(chance, more.waiting)), wanted)
        return fell

    def test_deals_and_steps(self):
        for chance in chances(12):
            story, many = any_story(chance, chance.randint(1, 8)), chance.randint(1, 4)
            source, disk = source_of(story, many)
            if chance.random() < 0.5:
                source.compact(chance.randint(0, story.moment))
            blocks, ahead = disk.blocks, told_of(source)
            for entry in (any_deal(chance, story, most=12), ("step", any_next_step(chance, story.schema))):
                other = Source(Disk(blocks))
                if entry[0] == "deal" or story.schema:
                    lead(other, (entry,))
                    fell = self.falls(chance, blocks, lambda disk: lead(Source(disk), (entry,)), ahead, told_of(other))
                    self.assertGreaterEqual(fell, 4)

    def test_compactions(self):
        for chance in chances(12):
            story, many = any_story(chance, chance.randint(1, 8)), chance.randint(1, 4)
            source, disk = source_of(story, many)
            if chance.random() < 0.5:
                source.compact(chance.randint(0, story.moment - 1))
            blocks, ahead = disk.blocks, told_of(source)
            moment = chance.randint(source.first + 1, story.moment)
            other = Source(Disk(blocks))
            other.compact(moment)
            fell = self.falls(chance, blocks, lambda disk: Source(disk).compact(moment), ahead, told_of(other))
            self.assertGreaterEqual(fell, 4)

    def test_founding(self):
        for chance, start in zip(chances(4), ((), ("old one",), ("012 boo",), ("~" * 120,))):
            wanted = told_of(founded(Disk(), 3))
            for disk, is_fallen in falls_of(start, lambda disk: founded(disk, 3)):
                for fates in each_fates(chance, disk.waiting):
                    found = disk.cut(fates)
                    try:
                        source = Source(Disk(found.blocks))
                    except NoSource:
                        self.assertTrue(is_fallen)
                        source = founded(found, 3)
                        self.opened(found, (wanted,))
                    self.same(told_of(source), wanted)

    def test_falls_one_behind_another(self):
        for chance in chances(120):
            stories = [any_story(chance, 3)]
            _, disk = source_of(stories[0], chance.randint(1, 4))
            disk, source, first = Disk(disk.blocks, chance.randint(0, 30)), None, [0]
            for _ in range(25):
                try:
                    if source is None:
                        source = Source(disk)
                        stories = [story for story in stories if story.moment == source.moment]
                        first = [moment for moment in first if moment == source.first]
                        self.assertTrue(stories and first)
                        self.stands(source, stories[0], first[0])
                        stories, first = stories[:1], first[:1]
                    if chance.random() < 0.25:
                        first.append(chance.randint(source.first, source.moment))
                        source.compact(first[-1])
                        first = first[-1:]
                    else:
                        stories.append(self.longer(chance, stories[0]))
                        lead(source, stories[-1].entries[-1:])
                        stories = stories[-1:]
                    self.stands(source, stories[0], first[0])
                    self.same(disk.waiting, ())
                except Fallen as error:
                    self.assertIsNone(error.value)
                    source, disk = None, Disk(disk.cut(any_fates(chance, disk.waiting)).blocks, chance.randint(0, 60))
                except NoRoom:
                    self.assertGreater(max(weight(moment, story) for moment in first for story in stories), 640)
                    break

    def longer(self, chance, story):
        new = Story()
        for entry in story.entries:
            new.tell(entry)
        new.tell(any_deal(chance, story) if story.schema and chance.random() < 0.7
                 else ("step", any_next_step(chance, story.schema)))
        return new

    def stands(self, source, story, first):
        self.same((source.moment, source.edition, source.first), (story.moment, story.editions[-1], first))
        self.same((source.schema, source.state, source.steps), (story.schema, story.state(story.moment), story.steps))
        self.same(source.entries, story.entries[first:])
