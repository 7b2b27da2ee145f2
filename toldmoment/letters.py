"""Letters: what a source with several partitions sends of each entry of its history (section 10)."""

from toldmoment.errors import BadEntries, BadMany, BadMoment, BadPartition
from toldmoment.forms import are_changes, is_entry, is_integer, is_step, want_key

MOST_PARTITIONS = 4


def partition_of(key, many):
    """The partition to which changes of this key go."""
    want_key(key)
    want_many(many)
    return partition_by(key, many)


def letters_of(entries, first, partition, many):
    """All deal and step letters of this partition, entries being those of the moments above first."""
    if not isinstance(entries, tuple) or not all([is_entry(entry) for entry in entries]):
        raise BadEntries(entries)
    want_moment(first)
    want_many(many)
    want_partition(partition, many)
    return letters_behind(entries, first, first, partition, many)


def letters_behind(entries, first, before, partition, many):
    """As letters_of, but the letter ahead of the first one is of the moment before; nothing is looked at."""
    letters = []
    for moment, entry in enumerate(entries, first + 1):
        told = entry[1]
        if entry[0] == "deal":
            told = tuple([change for change in entry[1] if partition_by(change[2], many) == partition])
            if len(told) == 0:
                continue
        letters.append((entry[0], partition, moment, before, told))
        before = moment
    return tuple(letters)


def is_letter(value, many):
    """Whether value is a letter of a source with so many partitions."""
    if not isinstance(value, tuple) or len(value) not in (4, 5):
        return False
    word, partition, moment, before = value[:4]
    if not is_partition(partition, many) or not is_moment(moment) or not is_moment(before):
        return False
    if len(value) == 4:
        return word == "mark" and moment >= 1 and before <= moment
    if before >= moment:
        return False
    if word == "step":
        return is_step(value[4])
    return word == "deal" and are_letter_changes(value[4], partition, many)


def is_old(value, many):
    """Whether value tells that the letters of a partition, of so many, are gone up to some moment."""
    if not isinstance(value, tuple) or len(value) != 3 or value[0] != "old":
        return False
    return is_partition(value[1], many) and is_moment(value[2])


def are_letter_changes(value, partition, many):
    """Whether value is at least one change, each of a key of this partition."""
    if not are_changes(value) or len(value) == 0:
        return False
    return all([partition_by(change[2], many) == partition for change in value])


def partition_by(key, many):
    """As partition_of; nothing is looked at."""
    return (key - 1) % many


def is_partition(value, many):
    """Whether value is one of so many partitions."""
    return is_integer(value) and 0 <= value < many


def is_moment(value):
    """Whether value is an integer from 0 on."""
    return is_integer(value) and value >= 0


def is_many(value):
    """Whether a source may have so many partitions."""
    return is_integer(value) and 1 <= value <= MOST_PARTITIONS


def want_moment(value):
    """Raises BadMoment unless value is an integer from 0 on."""
    if not is_moment(value):
        raise BadMoment(value)


def want_many(value):
    """Raises BadMany unless a source may have so many partitions."""
    if not is_many(value):
        raise BadMany(value)


def want_partition(value, many):
    """Raises BadPartition unless value is one of so many partitions."""
    if not is_partition(value, many):
        raise BadPartition(value)
