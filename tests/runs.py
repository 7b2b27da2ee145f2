"""Runs of a source beside consumers that are held against its story: what several tests share."""

from models import Story, any_deal, any_next_step, shown_plainly
from samples import any_view
from toldmoment.consumers import joined
from toldmoment.disks import Disk
from toldmoment.errors import Unready
from toldmoment.schemas import step_text
from toldmoment.source import founded

KEYS = (1, 2, 3, 4, 5, 6, 7, 8, 999999)


def weight_at(story, moment):
    """What a consumer that stands there has, told as the document tells it."""
    steps = [told for word, told in story.entries[:moment] if word == "step"]
    rows = [values for _, rows in story.state(moment) for _, values in rows]
    return sum(len(step_text(step).split(" ")) + 3 for step in steps) + sum(6 + len(values) for values in rows)


def any_views(chance, story, most=4):
    """Views by some edition's schema, perhaps by a later one's than is looked for, or by none."""
    schemas = [schema for schema in story.edition_schemas() if any(columns for _, columns in schema)]
    views = [any_view(chance, chance.choice(schemas)) for _ in range(chance.randint(1, most))] if schemas else []
    return tuple(views) or (("count", "a", "x"),)


def told_of(consumer):
    """All that can be asked of a consumer."""
    tables = None if consumer.moment is None else consumer.tables()
    return (consumer.partitions, consumer.edition, consumer.views, consumer.moment, consumer.is_copying, consumer.asks(), tables)


def kept_of(consumer):
    """What of it an opening finds again."""
    tables = None if consumer.moment is None else consumer.tables()
    return consumer.partitions, consumer.edition, consumer.views, consumer.moment, tables


def shows_what_is_due(case, consumer, story):
    """Holds what a consumer shows against the story."""
    if consumer.moment is None:
        case.refused(Unready, None, consumer.tables)
    else:
        schema, state = story.seen(consumer.moment, consumer.edition)
        case.same(consumer.tables(), shown_plainly(schema, state, consumer.views))


class Run:
    """A source that is led by chance, and all letters that it ever sent."""

    def __init__(self, case, chance, partitions=None, many=8, steps=0.25, least=0):
        self.case, self.chance, self.steps = case, chance, steps
        self.partitions, self.story, self.bag = partitions or chance.randint(1, 4), Story(), []
        self.disk = Disk()
        self.source = founded(self.disk, self.partitions)
        for _ in range(chance.randint(least, many)):
            self.write()

    def write(self, words=None, keys=KEYS):
        if not self.story.schema or self.chance.random() < self.steps:
            self.lead(("step", any_next_step(self.chance, self.story.schema, *([words] if words else []))))
        else:
            self.lead(any_deal(self.chance, self.story, keys))

    def lead(self, *entries):
        for entry in entries:
            self.case.assertEqual((self.source.deal if entry[0] == "deal" else self.source.step)(entry[1]), self.story.moment + 1)
            self.story.tell(entry)

    def joined(self, edition, views):
        disk = Disk()
        return joined(disk, self.partitions, edition, views), disk

    def chunk(self, low=1, high=999999, most=99, amid=0):
        """A chunk's letter, with writing between the rows as often as amid tells."""
        number = self.source.chunk(low, high)
        for _ in range(most):
            if self.chance.random() < amid:
                self.write()
            if not self.source.chunk_row(number):
                break
        return self.source.chunk_end(number)

    def answers(self, asks, amid=0):
        """The letters that answer, which come into the bag."""
        letters = []
        for word, one, other in asks:
            if word == "keys":
                letters.append(self.chunk(one, other, self.chance.choice((1, 2, 3, 99)), amid))
            else:
                letters.extend(self.source.letters(one, other))
        self.bag.extend(letters)
        return letters

    def hears(self, consumer, letters):
        """Lets the consumer hear them, and looks at it behind each one: it shows what is due, and never goes back."""
        for letter in letters:
            ahead, views = consumer.moment, consumer.views
            self.case.assertIsNone(consumer.hear(letter))
            self.case.assertEqual(consumer.views, views)
            if ahead is not None:
                self.case.assertIsNotNone(consumer.moment)
                self.case.assertGreaterEqual(consumer.moment, ahead)
            shows_what_is_due(self.case, consumer, self.story)

    def settles(self, consumer):
        """Answers till nothing lacks: it stands at the newest moment."""
        for _ in range(200):
            ahead = told_of(consumer)
            self.hears(consumer, self.answers(consumer.asks()))
            if told_of(consumer) == ahead:
                break
        self.case.assertFalse(consumer.is_copying)
        newest = self.story.moment if consumer.edition <= self.story.editions[-1] else None
        self.case.assertEqual(consumer.moment, newest)
        letters = tuple(("letters", partition, self.story.moment) for partition in range(self.partitions))
        self.case.same(consumer.asks(), letters)
