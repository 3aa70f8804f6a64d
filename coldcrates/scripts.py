"""Scripts that are executed on a live store."""

from coldcrates.checks import is_numeral, is_word
from coldcrates.errors import ExecutionFailed, ScriptError, StoreError, TooLong
from coldcrates.lives import Live
from coldcrates.stores import behind, check_crate, place_of
from coldcrates.tables import in_words

MOST_ROWS = 60
MOST_DEPTH = 4
MOST_STEPS = 300

# What stands behind the first word of a row: crates and numbers.
KINDS = {
    "look": ("number",),
    "put": ("crate", "number"),
    "exchange": ("crate", "crate"),
    "shut": (),
    "where": ("crate",),
    "repeat": ("number",),
    "when": ("crate", "number"),
    "end": (),
}
BLOCKS = ("repeat", "when")


def read_row(text):
    """Return a tuple with the first word of a row and what stands behind it, None if it is no such row."""
    words = text.split(" ")
    kinds = KINDS.get(words[0])
    if kinds is None or len(kinds) != len(words) - 1:
        return None
    told = list(zip(kinds, words[1:]))
    if not all([is_numeral(word) if kind == "number" else is_word(word) for kind, word in told]):
        return None
    return (words[0],) + tuple([int(word) if kind == "number" else word for kind, word in told])


def read_script(text):
    """Return the list of all rows of a script, as read_row does."""
    lines = [] if text == "" else text.split("\n")
    rows = []
    depth = 0
    for at, line in enumerate(lines):
        row = read_row(line)
        if at >= MOST_ROWS or row is None:
            raise ScriptError(at)
        depth += deeper_by(row)
        if not 0 <= depth <= MOST_DEPTH:
            raise ScriptError(at)
        rows.append(row)
    if depth > 0:
        raise ScriptError(len(lines))
    return rows


def deeper_by(row):
    """Return by how much the rows behind a row are deeper in blocks."""
    if row[0] in BLOCKS:
        return 1
    return -1 if row[0] == "end" else 0


def end_of(rows, begin):
    """Return the number of the row that ends the block that begins in a row."""
    depth = 1
    at = begin
    while depth > 0:
        at += 1
        depth += deeper_by(rows[at])
    return at


class Run:
    """A script that is executed, what it wrote, and how many steps it took."""

    def __init__(self, store, live, rows):
        self._store = store
        self._live = live
        self._rows = rows
        self._steps = 0
        self.output = []

    def execute(self, begin, end):
        """Execute the rows from begin on, ahead of end."""
        at = begin
        while at < end:
            self._count_step()
            if self._rows[at][0] in BLOCKS:
                at = self._execute_block(at)
            else:
                self._execute_row(at)
                at += 1

    def _count_step(self):
        """Count a step that is about to be taken."""
        if self._steps == MOST_STEPS:
            raise TooLong(f"the script takes more than {MOST_STEPS} steps")
        self._steps += 1

    def _execute_block(self, begin):
        """Execute a block, and return the number of the row behind its end."""
        end = end_of(self._rows, begin)
        if self._rows[begin][0] == "repeat":
            times = self._rows[begin][1]
            for _ in range(times):
                self._count_step()
                self.execute(begin + 1, end)
        elif self._holds(begin):
            self.execute(begin + 1, end)
        return end + 1

    def _holds(self, at):
        """Tell whether the crate of a row lies behind its door."""
        _, name, door = self._rows[at]
        try:
            check_crate(self._store, name)
            return name in behind(self._store, self._live.layout_now, door)
        except StoreError:
            raise ExecutionFailed(at) from None

    def _execute_row(self, at):
        """Execute a row that is no block."""
        try:
            self.output.extend(self._lines_of(self._rows[at]))
        except StoreError:
            raise ExecutionFailed(at) from None

    def _lines_of(self, row):
        """Execute a row that is no block, and return the list of the lines that it writes."""
        if row[0] == "where":
            return [str(place_of(self._store, self._live.layout_now, row[1]))]
        result = self._live.apply_all([row])[0]
        if row[0] == "look":
            return [in_words(result)]
        return [str(result)] if row[0] == "shut" else []


def run_script(store, layout, text):
    """Return a live store behind a script, and the list of all lines that it wrote."""
    live = Live(store, layout)
    rows = read_script(text)
    run = Run(store, live, rows)
    run.execute(0, len(rows))
    return (live, run.output)
