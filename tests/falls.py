"""Falls at each single write and sync: what several tests share."""

from toldmoment.disks import Disk
from toldmoment.errors import Fallen


def any_fates(chance, waiting):
    """Fates of all kinds, one for each write that waits."""
    way = chance.choice(("all", "none", "torn", "mixed", "mixed", "mixed"))
    torn = [chance.choice((0, len(text), chance.randint(0, len(text)))) for _, text in waiting]
    if way == "torn":
        return tuple(torn)
    return tuple(chance.choice(("all", "none", many)) if way == "mixed" else way for many in torn)


def each_fates(chance, waiting):
    """Fates of each kind for the writes that wait; one that waits alone is torn at each of its signs."""
    yield ("all",) * len(waiting)
    yield ("none",) * len(waiting)
    for at in range(len(waiting)):
        yield tuple("all" if other <= at else "none" for other in range(len(waiting)))
        yield tuple("none" if other <= at else "all" for other in range(len(waiting)))
        signs = len(waiting[at][1])
        places = range(signs + 1) if len(waiting) == 1 else sorted({0, min(1, signs), signs // 2, max(0, signs - 1), signs})
        for many in places:
            yield tuple(many if other == at else chance.choice(("all", "none")) for other in range(len(waiting)))
    for _ in range(3):
        yield any_fates(chance, waiting)


def falls_of(blocks, deed):
    """The disks on which the deed fell, for each number of writes and syncs that it did; then the one on which it did not."""
    left = 0
    while True:
        disk = Disk(blocks, left)
        try:
            deed(disk)
        except Fallen as error:
            assert error.value is None
            yield disk, True
            left += 1
        else:
            yield disk, False
            return
