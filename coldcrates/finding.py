"""Which doors to open until a crate is found, or all is known."""

from coldcrates.choices import subsets
from coldcrates.errors import InvalidRow, TooMany
from coldcrates.logs import check_log, lowest_terms, some_now
from coldcrates.stores import check_crate, check_layout, contents, has_door, warmth_of

MOST_LAYOUTS = 60


def is_row(store, value):
    """Tell whether a value is a tuple of different doors."""
    if not isinstance(value, tuple) or not all([has_door(store, door) for door in value]):
        return False
    return len(set(value)) == len(value)


def search(store, layout, name, row):
    """Return the warmth of all doors of a row that are opened until a crate is seen, or None."""
    check_layout(store, layout)
    check_crate(store, name)
    if not is_row(store, row):
        raise InvalidRow("this is no row of different doors")
    door = store.door_of(layout.index(name))
    if door not in row:
        return None
    return warmth_of(store, row[:row.index(door) + 1])


def best_search(store, log, name):
    """Return the least warmth in the worst case with which a row finds a crate, and the first such row."""
    found = some_with(store, log, name)
    # Whatever the order is, in the worst case each door behind which the crate can lie has to be opened.
    row = tuple(sorted({store.door_of(layout.index(name)) for layout in found}))
    return (warmth_of(store, row), row)


def some_with(store, log, name):
    """Return the list of all layouts possible now, or raise an error, also for an unknown crate."""
    check_log(store, log)
    check_crate(store, name)
    return some_now(store, log)


def check_few(found):
    """Raise TooMany if these are more layouts than can be looked at."""
    if len(found) > MOST_LAYOUTS:
        raise TooMany(f"more than {MOST_LAYOUTS} layouts are possible now")


def least_warmth(store, log, name):
    """Return the least warmth in the worst case until a crate is seen, each door chosen by what was seen."""
    found = some_with(store, log, name)
    check_few(found)
    shut = list(range(len(store)))
    return least_worst(store, found, shut, lambda left, doors: is_seen(store, left, name, doors))


def is_seen(store, left, name, shut):
    """Tell whether a crate was seen, if these layouts are left and these doors were not opened yet."""
    # What was seen is the same in all layouts left, so that any of them tells.
    return store.door_of(left[0].index(name)) not in shut


def least_worst(store, left, shut, is_over):
    """Return the least warmth in the worst case until it is over, these layouts left and these doors shut."""
    if is_over(left, shut):
        return 0
    return min([worst_by(store, left, shut, is_over, door) for door in shut])


def worst_by(store, left, shut, is_over, door):
    """Return the least warmth in the worst case until it is over, if a door is opened next."""
    others = without(shut, door)
    worst = max([least_worst(store, same, others, is_over) for same in told_apart(store, left, [door])])
    return warmth_of(store, [door]) + worst


def without(shut, door):
    """Return a list of doors without one of them."""
    return [other for other in shut if other != door]


def told_apart(store, left, doors):
    """Return a list of lists of layouts, those in one list being alike behind these doors."""
    groups = {}
    for layout in left:
        seen = tuple([contents(store, layout, door) for door in doors])
        groups.setdefault(seen, []).append(layout)
    return list(groups.values())


def least_mean(store, log, name):
    """Return the least mean of the warmth until a crate is seen, each door chosen by what was seen."""
    found = some_with(store, log, name)
    check_few(found)
    return lowest_terms(least_sum(store, found, list(range(len(store))), name), len(found))


def least_sum(store, left, shut, name):
    """Return the least sum over these layouts of the warmth until a crate is seen, these doors being shut."""
    if is_seen(store, left, name, shut):
        return 0
    return min([sum_by(store, left, shut, name, door) for door in shut])


def sum_by(store, left, shut, name, door):
    """Return the least sum over these layouts of the warmth until a crate is seen, if a door is opened next."""
    others = without(shut, door)
    later = sum([least_sum(store, same, others, name) for same in told_apart(store, left, [door])])
    return warmth_of(store, [door]) * len(left) + later


def least_to_know(store, log):
    """Return the least warmth in the worst case until one layout is left, each door chosen by what was seen."""
    found = some_now(store, log)
    check_few(found)
    return least_worst(store, found, list(range(len(store))), lambda left, doors: len(left) == 1)


def doors_to_know(store, log):
    """Return the least warmth with which doors opened at once tell all layouts apart, and the first such doors."""
    found = some_now(store, log)
    chosen = subsets(tuple(range(len(store))))
    telling = [doors for doors in chosen if len(told_apart(store, found, doors)) == len(found)]
    return min([(warmth_of(store, doors), doors) for doors in telling])


def next_door(store, log):
    """Return the door whose opening leaves the fewest layouts in the worst case."""
    found = some_now(store, log)
    told = [(most_left(store, found, door), warmth_of(store, [door]), door) for door in range(len(store))]
    return min(told)[2]


def most_left(store, found, door):
    """Return how many layouts are left in the worst case behind the opening of a door."""
    return max([len(same) for same in told_apart(store, found, [door])])
