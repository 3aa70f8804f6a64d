"""The text of a store."""

from coldcrates.checks import is_numeral, is_word
from coldcrates.errors import InvalidText
from coldcrates.stores import MOST_CRATES, MOST_DOORS, Store

DOOR = "door"
CRATES = "crates"
DOOR_WORDS = 3


def format_store(store):
    """Return the text of a store."""
    rows = [f"{DOOR} {warmth} {places}" for warmth, places in store.doors]
    rows.append(" ".join([CRATES] + list(store.crates)))
    return "\n".join(rows)


def parse_store(text):
    """Return the store of a text."""
    rows = [row.split(" ") for row in text.split("\n")]
    doors = []
    at = 0
    while at < min(len(rows), MOST_DOORS) and rows[at][0] == DOOR:
        doors.append(read_door(rows[at], at))
        at += 1
    if at == 0 or at == len(rows) or rows[at][0] != CRATES:
        raise InvalidText(at, 0)
    names = read_crates(rows[at], at)
    if len(rows) > at + 1:
        raise InvalidText(at + 1, 0)
    return Store(tuple(doors), names)


def read_door(words, row):
    """Return the warmth of a door, and the number of its places, from the words of its row."""
    for at in range(1, DOOR_WORDS):
        if at == len(words) or not is_numeral(words[at]) or words[at] == "0":
            raise InvalidText(row, at)
    if len(words) > DOOR_WORDS:
        raise InvalidText(row, DOOR_WORDS)
    return (int(words[1]), int(words[2]))


def read_crates(words, row):
    """Return the tuple of all crates from the words of their row."""
    if len(words) == 1:
        raise InvalidText(row, 1)
    for at in range(1, len(words)):
        ascends = at == 1 or words[at] > words[at - 1]
        if at > MOST_CRATES or not is_word(words[at]) or not ascends:
            raise InvalidText(row, at)
    return tuple(words[1:])
