"""Histories: where the source stands at each moment, and what is seen there at elder editions (section 7)."""

from toldmoment.errors import BadEntry, MomentError, NoEdition, NoMoment
from toldmoment.forms import is_entry, is_integer, is_short
from toldmoment.maps import state_back, state_there
from toldmoment.schemas import stepped
from toldmoment.states import key_rows, state_dealt

MOST_ENTRIES = 200


def schema_at(entries, moment):
    """The schema behind the first so many entries."""
    stands = stands_of(entries)
    want_moment(entries, moment)
    return stands[moment][0]


def state_at(entries, moment):
    """The state behind the first so many entries."""
    stands = stands_of(entries)
    want_moment(entries, moment)
    return stands[moment][1]


def edition_at(entries, moment):
    """How many steps there are among the first so many entries."""
    stands_of(entries)
    want_moment(entries, moment)
    return len(steps_among(entries[:moment]))


def schemas(entries):
    """The schemas of all editions."""
    stands = stands_of(entries)
    return editions_among(stands, entries)


def seen(entries, moment, edition):
    """The schema of an edition, and the state at the moment as it is seen there."""
    stands = stands_of(entries)
    want_moment(entries, moment)
    editions = editions_among(stands, entries[:moment])
    want_edition(edition, len(editions) - 1)
    return editions[edition], state_seen(editions, steps_among(entries[:moment]), stands[moment][1], edition)


def keyed(entries, moment, key):
    """What the key has at the moment, in all tables."""
    stands = stands_of(entries)
    want_moment(entries, moment)
    return key_rows(stands[moment][1], key)


def touched(entries, low, high):
    """The keys that are put or dropped above one moment, up to another one."""
    deals = [entry[1] for entry in between(entries, low, high) if entry[0] == "deal"]
    return tuple(sorted({change[2] for changes in deals for change in changes}))


def steps_between(entries, low, high):
    """The steps above one moment, up to another one."""
    return steps_among(between(entries, low, high))


def between(entries, low, high):
    """The entries above one moment, up to another one."""
    stands_of(entries)
    want_moment(entries, low)
    want_moment(entries, high)
    return entries[low:high]


def stands_of(entries):
    """The schema and the state at each moment; BadEntry with the number of the first part that cannot stand."""
    if not is_short(entries, MOST_ENTRIES):
        raise BadEntry(0)
    stands = [((), ())]
    for number, entry in enumerate(entries, 1):
        if not is_entry(entry):
            raise BadEntry(number)
        schema, state = stands[-1]
        try:
            stands.append(entry_behind(schema, state, entry))
        except MomentError:
            raise BadEntry(number) from None
    return stands


def entry_behind(schema, state, entry):
    """The schema and the state behind an entry, of those ahead of it."""
    if entry[0] == "deal":
        return schema, state_dealt(schema, state, entry[1])
    behind = stepped(schema, entry[1])
    return behind, state_there(schema, entry[1], behind, state)


def steps_among(entries):
    """The steps among entries, in their sequence."""
    return tuple([entry[1] for entry in entries if entry[0] == "step"])


def editions_among(stands, entries):
    """The schemas of all editions up to behind these entries, of where they stand."""
    return ((), *[stands[moment][0] for moment, entry in enumerate(entries, 1) if entry[0] == "step"])


def state_seen(editions, steps, state, edition):
    """A state of the newest edition, led back to this one; the first step leads from the edition 0 to the edition 1."""
    for at in range(len(steps) - 1, edition - 1, -1):
        state = state_back(editions[at], steps[at], state)
    return state


def want_moment(entries, value):
    """Raises NoMoment unless value is a moment of the history."""
    if not is_integer(value) or not 0 <= value <= len(entries):
        raise NoMoment(value)


def want_edition(value, newest):
    """Raises NoEdition unless value is an edition up to the newest one."""
    if not is_integer(value) or not 0 <= value <= newest:
        raise NoEdition(value)
