"""The warmth behind the doors, hour by hour."""

from coldcrates.checks import check_number
from coldcrates.errors import InvalidDay, InvalidOpenings
from coldcrates.stores import arrangements, has_door, warmth_of

MOST_COOLING = 99
MOST_HOURS = 12
MOST_OPENINGS = 6
FAR = 10 ** 18


def check_day(store, day):
    """Raise InvalidDay if this is no day of one to twelve hours."""
    if len(day) == 0:
        raise InvalidDay(0)
    for at, door in enumerate(day):
        if at >= MOST_HOURS or not (door is None or has_door(store, door)):
            raise InvalidDay(at)


def check_openings(store, openings):
    """Raise InvalidOpenings if these are not up to six doors."""
    for at, door in enumerate(openings):
        if at >= MOST_OPENINGS or not has_door(store, door):
            raise InvalidOpenings(at)


def warmths(store, cooling, day, count):
    """Return the tuple of the warmth behind all doors behind so many hours."""
    check_number(cooling, 1, MOST_COOLING)
    check_day(store, day)
    check_number(count, 0, FAR)
    days, hours = divmod(count, len(day))
    return tuple(behind_hours(store, cooling, day[:hours], behind_days(store, cooling, day, days)))


def behind_days(store, cooling, day, days):
    """Return the list of the warmth behind all doors behind so many whole days."""
    cold = all_cold(store)
    if days == 0:
        return cold
    one = behind_hours(store, cooling, day, cold)
    two = behind_hours(store, cooling, day, one)
    # Behind the first day each day adds as much as the second one: a door that rises in all by a day is
    # never again too cold to fall by the whole cooling, and any other one ends each day as the first.
    return [early + (days - 1) * (late - early) for early, late in zip(one, two)]


def all_cold(store):
    """Return the list of the warmth behind all doors at first."""
    return [0] * len(store)


def behind_hours(store, cooling, hours, warm):
    """Return the list of the warmth behind all doors behind some hours, warm being that ahead of them."""
    for door in hours:
        warm = cooled(risen(store, warm, door), cooling)
    return warm


def risen(store, warm, door):
    """Return a list of the warmth behind all doors when a door, or None, has been opened."""
    later = list(warm)
    if door is not None:
        later[door] += warmth_of(store, [door])
    return later


def cooled(warm, by):
    """Return a list of the warmth behind all doors when it has fallen."""
    return [max(0, warmth - by) for warmth in warm]


def first_thaw(store, cooling, day, limit):
    """Return the first hour in which an opened door becomes warmer than a limit, and the door, or None."""
    check_number(cooling, 1, MOST_COOLING)
    check_day(store, day)
    check_number(limit, 0, FAR)
    heights = heights_in(store, cooling, day * 3)
    thaws = []
    for at, door in enumerate(day):
        days = days_until(heights[at::len(day)], limit)
        if door is not None and days is not None:
            thaws.append((days * len(day) + at, door))
    return min(thaws, default=None)


def heights_in(store, cooling, hours):
    """Return a list with the warmth of the opened door before it falls, 0 for none, for each hour."""
    heights = []
    warm = all_cold(store)
    for door in hours:
        warm = risen(store, warm, door)
        heights.append(0 if door is None else warm[door])
        warm = cooled(warm, cooling)
    return heights


def days_until(heights, limit):
    """Return on which day from 0 on a height is greater than a limit, told those of the first three days."""
    first, second, third = heights
    if first > limit:
        return 0
    if second > limit:
        return 1
    # Each day behind the second adds as much as the third one, as behind_days tells.
    more = third - second
    if more == 0:
        return None
    return 2 + (limit - second) // more


def hours_for(store, cooling, limit, openings):
    """Return how many hours openings take in this order, or None."""
    check_question(store, cooling, limit, openings)
    return hours_in_all(store, cooling, limit, openings)


def check_question(store, cooling, limit, openings):
    """Raise an error if one of these is not as it has to be."""
    check_number(cooling, 1, MOST_COOLING)
    check_number(limit, 0, FAR)
    check_openings(store, openings)


def hours_in_all(store, cooling, limit, openings):
    """Return what hours_for does, of what surely is right."""
    if not all([warmth_of(store, [door]) <= limit for door in openings]):
        return None
    hours = 0
    warm = all_cold(store)
    for door in openings:
        waiting = hours_above(risen(store, warm, door)[door] - limit, cooling)
        warm = cooled(risen(store, cooled(warm, waiting * cooling), door), cooling)
        hours += waiting + 1
    return hours


def hours_above(excess, cooling):
    """Return how many hours it takes until an excess of warmth is gone."""
    return max(0, (excess + cooling - 1) // cooling)


def best_openings(store, cooling, limit, openings):
    """Return the least number of hours that openings take in any order, and the first such order, or None."""
    check_question(store, cooling, limit, openings)
    if hours_in_all(store, cooling, limit, openings) is None:
        return None
    orders = arrangements(tuple(sorted(openings)), 0)
    return min([(hours_in_all(store, cooling, limit, order), order) for order in orders])
