"""People who have opened doors, and say in turn whether they know where a crate lies."""

from coldcrates.checks import check_number
from coldcrates.choices import length_and_items, subsets
from coldcrates.errors import InvalidRows
from coldcrates.finding import told_apart
from coldcrates.stores import all_layouts, check_crate, check_layout, has_door

MOST_PEOPLE = 3


def check_question(store, layout, name, rows):
    """Raise an error if one of these is not as it has to be."""
    check_layout(store, layout)
    check_crate(store, name)
    if len(rows) == 0:
        raise InvalidRows(0)
    for at, row in enumerate(rows):
        if at >= MOST_PEOPLE or not all([has_door(store, door) for door in row]):
            raise InvalidRows(at)


def spoken(store, layout, name, rows):
    """Return the tuple of all that is said, and how many layouts are left by it."""
    check_question(store, layout, name, rows)
    words = ()
    ahead, left = [], all_layouts(store)
    while len(ahead) != len(left):
        ahead = left
        said, left = one_round(store, layout, name, rows, left)
        words += said
    return (words, len(left))


def one_round(store, layout, name, rows, left):
    """Return the tuple of what is said in a round, and the list of the layouts left behind it."""
    said = ()
    for row in rows:
        knowing = who_know(store, left, name, row)
        word = knowing[layout]
        left = [other for other in left if knowing[other] == word]
        said += (word,)
    return (said, left)


def who_know(store, left, name, row):
    """Return a dict from each layout left to whether somebody who opened these doors knows the place in it."""
    knowing = {}
    for same in told_apart(store, left, row):
        known = len({layout.index(name) for layout in same}) == 1
        for layout in same:
            knowing[layout] = known
    return knowing


def first_to_know(store, layout, name, rows):
    """Return the turn in which somebody first says that it knows the place, and who says so, or None."""
    words, _ = spoken(store, layout, name, rows)
    if True not in words:
        return None
    turn = words.index(True)
    return (turn, turn % len(rows))


def needed_doors(store, layout, name, rows, person):
    """Return the shortest tuple of doors with which a person knows the place when it first speaks."""
    check_question(store, layout, name, rows)
    check_number(person, 0, len(rows) - 1)
    chosen = subsets(tuple(range(len(store))))
    enough = [doors for doors in chosen if knows_first(store, layout, name, rows[:person], rows[person] + doors)]
    # Whoever opens all doors knows the place, so there always is such a tuple.
    return min(enough, key=length_and_items)


def knows_first(store, layout, name, ahead, row):
    """Tell whether a person with a row of doors says that it knows the place, behind those ahead of it."""
    said, _ = one_round(store, layout, name, ahead + (row,), all_layouts(store))
    return said[-1]
