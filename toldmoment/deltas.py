"""Views that are kept by what goes and what comes (section 13)."""

from toldmoment.errors import BadChanges, BadRows
from toldmoment.forms import are_unlike, is_key_rows, is_pair, want_key
from toldmoment.maps import by_keys
from toldmoment.schemas import columns_in, place_in
from toldmoment.states import want_state
from toldmoment.views import add_share, check_view, groups_told, is_grouped, row_told, share_of


class Kept:
    """A view that is kept, of a state that changes key by key."""

    def __init__(self, schema, state, view):
        want_state(schema, state)
        check_view(schema, view)
        self.schema = schema
        self.view = view
        self._tables = {table: {} for table, _ in schema}
        # What a view of rows or pairs tells, by keys.
        self._told_rows = {}
        # What a view that adds up is told of, by values.
        self._groups = {}
        for key, rows in by_keys(state).items():
            self._take_rows(key, rows)
        self._tell()

    def __eq__(self, other):
        if not isinstance(other, Kept):
            return False
        # Both tell the same of the same rows.
        return self.schema == other.schema and self.view == other.view and self._tables == other._tables

    def rows(self, key):
        """What the key has, in all tables."""
        want_key(key)
        return tuple([(table, self._tables[table].get(key)) for table, _ in self.schema])

    def change(self, key, rows):
        """Lets the key have just these rows."""
        self._want_rows(key, rows)
        self._take_rows(key, dict(rows))
        self._tell()

    def changes(self, some):
        """Lets several keys have just their rows."""
        if not isinstance(some, tuple) or not all([is_pair(part) for part in some]):
            raise BadChanges(some)
        if not are_unlike([key for key, _ in some]):
            raise BadChanges(some)
        for key, rows in some:
            self._want_rows(key, rows)
        for key, rows in some:
            self._take_rows(key, dict(rows))
        self._tell()

    def _want_rows(self, key, rows):
        """Raises BadKey or BadRows unless rows tells what this key may have."""
        want_key(key)
        if not is_key_rows(self.schema, rows):
            raise BadRows(rows)

    def _take_rows(self, key, rows):
        """Takes in the key's rows, a dict by tables, and keeps what the view tells of them, and for their sake."""
        if is_grouped(self.view):
            self._add(key, -1)
        for table, values in rows.items():
            if values is None:
                self._tables[table].pop(key, None)
            else:
                self._tables[table][key] = values
        if is_grouped(self.view):
            self._add(key, 1)
        else:
            for other in [key, *self._pointing_at(key)]:
                self._tell_row(other)

    def _add(self, key, many):
        """Adds so many times what the row under this key adds, if there is one."""
        values = self._tables[self.view[1]].get(key)
        if values is not None:
            add_share(self._groups, share_of(self.schema, self.view, values), many)

    def _pointing_at(self, key):
        """The keys of the rows that the view pairs with what lies under this one."""
        if self.view[0] != "pair":
            return []
        at = place_in(columns_in(self.schema, self.view[1]), self.view[2])
        return [other for other, values in self._tables[self.view[1]].items() if values[at] == key]

    def _tell_row(self, key):
        """Lets go what the view told of the first table's row under this key, and puts in what it tells now."""
        row = row_told(self.schema, self._tables, self.view, key)
        if row is None:
            self._told_rows.pop(key, None)
        else:
            self._told_rows[key] = row

    def _tell(self):
        """Tells what the view tells now."""
        if is_grouped(self.view):
            self.tells = groups_told(self._groups)
        else:
            self.tells = tuple([self._told_rows[key] for key in sorted(self._told_rows)])
