"""Deeds of a rig, made by chance: what several tests share."""

from models import WORDS, any_deal, any_next_step
from runs import any_views

KEYS = (1, 2, 3, 4, 5, 6, 999999)


def any_fates(chance):
    return tuple(chance.choice(("all", "none", chance.randint(0, 130))) for _ in range(chance.randint(0, 6)))


def any_deed(chance, rig, story, many):
    """A deed that often can be done, in a rig with so many consumers; story is that of its source."""
    who, partitions = chance.randint(1, many) if many else 1, rig.partitions
    bag = [number for number, _ in rig.rig.bag]
    words = WORDS if story.moment < 40 else ("gone", "cut", "make", "name")
    return {
        "deal": lambda: any_deal(chance, story, KEYS),
        "step": lambda: ("step", any_next_step(chance, story.schema, words)),
        "compact": lambda: ("compact", chance.randint(0, story.moment)),
        "chunk": lambda: ("chunk", *sorted((chance.choice((1, 1, 2, 4)), chance.choice((3, 6, 999999, 999999))))),
        "row": lambda: ("row", chance.randint(1, 1 + rig.chunks)),
        "end": lambda: ("end", chance.randint(1, 1 + rig.chunks)),
        "send": lambda: ("send", chance.randrange(partitions), chance.randint(0, story.moment)),
        "answer": lambda: ("answer", who),
        "hear": lambda: ("hear", who, chance.choice(bag[-6:] if chance.random() < 0.7 else bag) if bag else 1),
        "lose": lambda: ("lose", chance.choice(bag) if bag else 1),
        "join": lambda: ("join", chance.randint(0, story.editions[-1] + 1), any_views(chance, story, 3)),
        "move": lambda: ("move", who, chance.randint(0, story.editions[-1]), any_views(chance, story, 3)),
        "weaken": lambda: ("weaken", chance.randint(0, many), chance.choice((0, 1, 2, 5, 10, 20, 40))),
        "up": lambda: ("up", chance.choice(rig.rig.down or (0,)), any_fates(chance)),
    }


# How often each deed is done.
OFTEN = {
    "deal": 18, "step": 6, "compact": 3, "chunk": 3, "row": 7, "end": 4, "send": 5, "answer": 12, "hear": 30, "lose": 3, "join": 3,
    "move": 3, "weaken": 6, "up": 8,
}
