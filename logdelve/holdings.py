"""What a store holds, how deeds change it, and how they are taken back and done again."""

from logdelve.errors import NothingLeft
from logdelve.indexes import index_of, lead_in, lead_out, twin_index
from logdelve.pieces import pieces_behind

# The tables of a store, each a dict: by names, or by sources and numbers for rows and for struck ones.
SOURCES = "sources"
KINDS = "kinds"
FLOORS = "floors"
ROWS = "rows"
STRUCK = "struck"
INDEXES = "indexes"
SAVES = "saves"
HOLDS = "holds"
STANDS = "stands"
TABLES = (SOURCES, KINDS, FLOORS, ROWS, STRUCK, INDEXES, SAVES, HOLDS, STANDS)


class Holdings:
    """Tables, pieces, indexes and deeds.

    A change is a tuple of a table's name, a key, the elder thing there and the newer one, None where there
    is none. A deed is a tuple of its word, its changes, and the lists of pieces ahead of it and behind it.
    Things, deeds and lists of pieces are never changed themselves, so twins may share them.
    """

    def __init__(self, size):
        self.size = size
        self.tables = {name: {} for name in TABLES}
        self.parted = []
        self.leads = {}
        self.stood = []
        self.undone = []
        self.told_last = {}

    def change(self, table, key, newer):
        """Tell the change that puts a newer thing in the place of the one that is there."""
        return (table, key, self.tables[table].get(key), newer)

    def carry_out(self, word, changes):
        """Do a deed that consists of these changes; rows go to their pieces."""
        exchanges = [(elder, newer) for table, key, elder, newer in changes if table == ROWS]
        self.enter(word, changes, pieces_behind(self.parted, exchanges, self.size))

    def enter(self, word, changes, parted):
        """Do a deed behind which rows are parted so."""
        self.stood.append((word, changes, self.parted, parted))
        self.undone = []
        self.bring(changes, parted)

    def bring(self, changes, parted):
        """Let changes and pieces stand."""
        for table, key, elder, newer in changes:
            self.put(table, key, newer)
        self.parted = parted

    def put(self, table, key, newer):
        """Put a thing in a table, or take out what is there; indexes follow."""
        things = self.tables[table]
        elder = things.get(key)
        if newer is None:
            del things[key]
        else:
            things[key] = newer
        if table == ROWS:
            self.lead(elder, newer)
        if table == INDEXES:
            self.lead_anew(key, newer)

    def lead(self, elder, newer):
        """Let all indexes lead to the newer row in the elder one's place."""
        for field in list(self.leads):
            if elder is not None:
                lead_out(self.leads[field], field, elder)
            if newer is not None:
                lead_in(self.leads[field], field, newer)

    def lead_anew(self, field, newer):
        """Begin an index of a field, or end it where there is nothing newer."""
        if newer is None:
            del self.leads[field]
        else:
            self.leads[field] = index_of(field, list(self.tables[ROWS].values()))

    def take_back(self):
        """Take back the last deed that stands and tell its word."""
        if not self.stood:
            raise NothingLeft()
        deed = self.stood.pop()
        self.undone.append(deed)
        word, changes, parted_ahead, parted_behind = deed
        # What a deed did last is taken back first.
        turned = [(table, key, newer, elder) for table, key, elder, newer in changes[::-1]]
        self.bring(turned, parted_ahead)
        return word

    def do_again(self):
        """Do again the deed that was taken back last and tell its word."""
        if not self.undone:
            raise NothingLeft()
        deed = self.undone.pop()
        self.stood.append(deed)
        word, changes, parted_ahead, parted_behind = deed
        self.bring(changes, parted_behind)
        return word

    def forget_deeds(self):
        """Leave nothing to take back or to do again."""
        self.stood = []
        self.undone = []

    def twin(self):
        """Tell holdings of their own with all that these have."""
        other = Holdings(self.size)
        for name in TABLES:
            things = self.tables[name]
            other.tables[name] = {key: things[key] for key in things}
        other.parted = self.parted
        other.leads = {field: twin_index(self.leads[field]) for field in self.leads}
        other.stood = list(self.stood)
        other.undone = list(self.undone)
        other.told_last = dict(self.told_last)
        return other
