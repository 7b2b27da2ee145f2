"""Where a consumer stands: a moment, with the source's steps and state there."""

from toldmoment.histories import entry_behind, state_seen
from toldmoment.stored import base_stored, editions_of, row_records, step_records


class Stand:
    """A moment, the steps up to there, the schemas of all editions, and the state."""

    def __init__(self, moment, steps, editions, state):
        self.moment = moment
        self.steps = steps
        self.editions = editions
        self.state = state
        self.edition = len(steps)

    def seen(self, edition):
        """The schema of an edition up to that of the moment, and the state as it is seen there."""
        return self.editions[edition], state_seen(self.editions, self.steps, self.state, edition)

    def told_in_book(self):
        """The records that tell it, but for its moment."""
        return (*step_records(self.steps), *row_records(self.state))

    def behind(self, moment, entry):
        """Where one stands at this later moment, behind the entry, which is all that changed anything since."""
        schema, state = entry_behind(self.editions[-1], self.state, entry)
        if entry[0] == "step":
            return Stand(moment, (*self.steps, entry[1]), (*self.editions, schema), state)
        return Stand(moment, self.steps, self.editions, state)


def stand_at(moment, steps, state):
    """Where one stands at this moment, behind these steps."""
    return Stand(moment, steps, editions_of(steps), state)


def stand_in(moment, records):
    """Where one stands at this moment as the records tell; some error if they do not tell that."""
    steps, editions, state = base_stored(records)
    return Stand(moment, steps, editions, state)
