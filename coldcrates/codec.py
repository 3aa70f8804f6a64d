"""The code of a store, a list of integers."""

from coldcrates.checks import LETTERS, LONGEST_WORD, is_number
from coldcrates.errors import DecodeError
from coldcrates.stores import MOST_BEHIND, MOST_CRATES, MOST_DOORS, MOST_WARMTH, Store

MARK = 71
CHECKSUM_AT_FIRST = 4
CHECKSUM_FACTOR = 11
CHECKSUM_MODULUS = 251


def encode_store(store):
    """Return the code of a store."""
    values = [MARK, len(store)]
    for warmth, places in store.doors:
        values.extend([warmth, places])
    values.append(len(store.crates))
    for name in store.crates:
        values.append(len(name))
        values.extend([LETTERS.index(letter) + 1 for letter in name])
    values.append(checksum_of(values))
    return values


def checksum_of(values):
    """Return the checksum behind some items."""
    checksum = CHECKSUM_AT_FIRST
    for value in values:
        checksum = (CHECKSUM_FACTOR * checksum + value) % CHECKSUM_MODULUS
    return checksum


class Reader:
    """The items of a code, read one after another."""

    def __init__(self, values):
        self._values = values
        self._at = 0

    def read(self, low, high):
        """Return the next item, which has to be an integer from low to high."""
        if self._at == len(self._values) or not is_number(self._values[self._at], low, high):
            raise DecodeError(self._at)
        self._at += 1
        return self._values[self._at - 1]

    def read_end(self):
        """Read the checksum, behind which no item may stand."""
        checksum = checksum_of(self._values[:self._at])
        self.read(checksum, checksum)
        if self._at < len(self._values):
            raise DecodeError(self._at)


def decode_store(values):
    """Return the store of a code."""
    reader = Reader(values)
    reader.read(MARK, MARK)
    doors = []
    door_count = reader.read(1, MOST_DOORS)
    for _ in range(door_count):
        warmth = reader.read(1, MOST_WARMTH)
        doors.append((warmth, reader.read(1, MOST_BEHIND)))
    names = []
    crate_count = reader.read(1, MOST_CRATES)
    for _ in range(crate_count):
        names.append(read_word(reader))
    reader.read_end()
    return Store(tuple(doors), tuple(names))


def read_word(reader):
    """Return the next word of a code."""
    count = reader.read(1, LONGEST_WORD)
    return "".join([LETTERS[reader.read(1, len(LETTERS)) - 1] for _ in range(count)])
