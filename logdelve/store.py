"""The store: rows that sources tell, kept in pieces, and the questions asked of them."""

from logdelve.asking import answer_told, checked_question, fields_told, plan_told, reasons_told
from logdelve.deeds import (
    begin_index, do_again, end_index, hold_source, release_hold, take_back, tell_field, tell_source, tidy_pieces,
)
from logdelve.errors import BadSize, Busy, NoIndex, NoPiece
from logdelve.holdings import FLOORS, HOLDS, INDEXES, KINDS, ROWS, SAVES, SOURCES, STANDS, STRUCK, Holdings
from logdelve.indexes import found_in
from logdelve.pieces import LEAST_SIZE, MOST_SIZE, stored_rows
from logdelve.question_deeds import save_question, stand_question, unsave_question, unstand_question
from logdelve.questions import question_text
from logdelve.row_deeds import add_row, add_rows, amend_row, raise_floor, strike_row
from logdelve.rows import copied
from logdelve.standing import changes_told
from logdelve.values import NUMBER

PIECE = 8


class Store:
    """Keeps rows and answers questions about them; its pieces have at most so many rows as its size."""

    def __init__(self, *, size=PIECE):
        if not LEAST_SIZE <= size <= MOST_SIZE:
            raise BadSize()
        self.held = Holdings(size)
        self.at_work = False

    def __len__(self):
        return len(self.held.tables[ROWS])

    def do(self, action, *things):
        """Do a deed, and refuse every other one meanwhile."""
        if self.at_work:
            raise Busy()
        self.at_work = True
        try:
            return action(self.held, *things)
        finally:
            self.at_work = False

    # Deeds. What they refuse, and in which order, is told where they are done.

    def source(self, name):
        """Tell the store of a source."""
        return self.do(tell_source, name)

    def field(self, name, *, sort=NUMBER):
        """Tell the store of a field and its sort."""
        return self.do(tell_field, name, sort)

    def add(self, row):
        """Add a row and tell its word: new, again or past."""
        return self.do(add_row, row)

    def batch(self, rows, *, whole=False):
        """Add rows as one deed and tell their words; whole, all of them or none."""
        return self.do(add_rows, rows, whole)

    def amend(self, source, number, fields):
        """Let a row have just these fields and tell the elder ones."""
        return self.do(amend_row, source, number, fields)

    def strike(self, source, number):
        """Strike a row for good and tell it."""
        return self.do(strike_row, source, number)

    def hold(self, name, source):
        """Hold a source's rows, so that no floor lets them go."""
        return self.do(hold_source, name, source)

    def release(self, name):
        """End a hold."""
        return self.do(release_hold, name)

    def floor(self, source, time):
        """Let go all rows of a source ahead of a time and tell how many there were."""
        return self.do(raise_floor, source, time)

    def add_index(self, field):
        """Begin an index of a field."""
        return self.do(begin_index, field)

    def drop_index(self, field):
        """End the index of a field."""
        return self.do(end_index, field)

    def save(self, name, question, *, anew=False):
        """Keep a question under a name; anew also in the place of the one that is kept there."""
        return self.do(save_question, name, question, anew)

    def unsave(self, name):
        """Keep a question no more."""
        return self.do(unsave_question, name)

    def stand(self, name, question):
        """Let a question stand under a name, from its answer on."""
        return self.do(stand_question, name, question)

    def unstand(self, name):
        """Let a question stand no more."""
        return self.do(unstand_question, name)

    def tidy(self):
        """Lead pieces together, so that no two neighbours have room in one."""
        return self.do(tidy_pieces)

    def undo(self):
        """Take back the last deed and tell its word."""
        return self.do(take_back)

    def redo(self):
        """Do again the deed that was taken back last and tell its word."""
        return self.do(do_again)

    def twin(self):
        """Tell a store of its own with all that this one has."""
        other = Store(size=self.held.size)
        other.held = self.held.twin()
        return other

    # What the store tells of what it holds. All lists and dicts are new ones.

    def rows(self):
        """Tell all rows, in order."""
        return [copied(row) for row in stored_rows(self.held.parted)]

    def sources(self):
        """Tell the sources' names."""
        return sorted(self.held.tables[SOURCES])

    def kinds(self):
        """Tell the fields' sorts by their names."""
        return dict(self.held.tables[KINDS])

    def floors(self):
        """Tell the floors by their sources."""
        return dict(self.held.tables[FLOORS])

    def holds(self):
        """Tell the holds' names and sources."""
        return sorted(self.held.tables[HOLDS].items())

    def struck(self):
        """Tell the sources and numbers of struck rows."""
        return sorted(self.held.tables[STRUCK])

    def indexes(self):
        """Tell the fields that have an index."""
        return sorted(self.held.tables[INDEXES])

    def saves(self):
        """Tell the kept questions' names and texts."""
        return question_pairs(self.held.tables[SAVES])

    def stands(self):
        """Tell the standing questions' names and texts."""
        return question_pairs(self.held.tables[STANDS])

    def undoable(self):
        """Tell the words of the deeds that stand, the first one first."""
        return [deed[0] for deed in self.held.stood]

    def redoable(self):
        """Tell the words of the deeds that can be done again, the next one first."""
        return [deed[0] for deed in self.held.undone[::-1]]

    def pieces(self):
        """Tell for each piece the sources and numbers of its rows."""
        return [[row[1:3] for row in piece.stored] for piece in self.held.parted]

    def summary(self, at):
        """Tell what the piece at a place holds."""
        if not 0 <= at < len(self.held.parted):
            raise NoPiece()
        return dict(self.held.parted[at].extents)

    def looked_up(self, field, value):
        """Tell, by the index of a field, the sources and numbers of the rows that have a value there."""
        if field not in self.held.leads:
            raise NoIndex()
        return found_in(self.held.leads[field], value)

    # Questions.

    def answer(self, question, *, since=None, until=None):
        """Tell the answer to a question."""
        asked = checked_question(self.held, question)
        return answer_told(self.held, asked, since, until)

    def reasons(self, question, at, *, since=None, until=None):
        """Tell the reasons of the row at a place of the answer."""
        asked = checked_question(self.held, question)
        return reasons_told(self.held, asked, at, since, until)

    def plan(self, question, *, since=None, until=None):
        """Tell for each piece the paper by which it is left, or None where it is opened."""
        asked = checked_question(self.held, question)
        return plan_told(self.held, asked, since, until)

    def fields(self, question):
        """Tell the fields and sorts of a question's answer."""
        asked = checked_question(self.held, question)
        return fields_told(self.held, asked, self.held.tables[SAVES])

    def changes(self, name):
        """Tell the rows that went from a standing question's answer, and that came, since it was told last."""
        return changes_told(self.held, name)


def question_pairs(questions):
    """Tell names and texts of questions, rising."""
    return [(name, question_text(questions[name])) for name in sorted(questions)]
