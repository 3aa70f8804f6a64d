"""Hands, and which of their habits explain what was found."""

from coldcrates.checks import check_number, is_word
from coldcrates.choices import length_and_items, subsets
from coldcrates.deeds import outcomes
from coldcrates.errors import InvalidHabits, InvalidHands
from coldcrates.stores import check_layout

WORDS = ("move", "near", "shuffle", "swap")
MOST_DEEDS = 3


def is_habits(value):
    """Tell whether a value is an ascending tuple of words of deeds."""
    return value in subsets(WORDS)


def check_question(store, one, other, most):
    """Raise an error if one of these is no layout, or the last one no number of deeds."""
    check_layout(store, one)
    check_layout(store, other)
    check_number(most, 0, MOST_DEEDS)


def deeds_between(store, habits, one, other, most):
    """Return by how few deeds, at most so many, a hand turns a layout into another one, or None."""
    if not is_habits(habits):
        raise InvalidHabits("these are no habits")
    check_question(store, one, other, most)
    return least_deeds(store, habits, one, other, most)


def least_deeds(store, habits, one, other, most):
    """Return what deeds_between does, of what surely is right."""
    reached = {one: 0}
    for many in range(most):
        # Of the layouts reached, just the last ones can lead on to new ones.
        last = [layout for layout, deeds in reached.items() if deeds == many]
        for layout in all_behind(store, habits, last):
            reached.setdefault(layout, many + 1)
    return reached.get(other)


def all_behind(store, habits, last):
    """Return the list of all layouts that one deed of a hand can make of some layouts."""
    deeds = [deed for word in habits for deed in deeds_with(store, word)]
    return [goal for layout in last for deed in deeds for goal in outcomes(store, layout, deed)]


def deeds_with(store, word):
    """Return the list of all deeds in a store with a word."""
    if word == "shuffle":
        return [(word, door) for door in range(len(store))]
    if word == "swap":
        return [(word, one, other) for one in store.crates for other in store.crates if one < other]
    return [(word, name) for name in store.crates]


def who_could(store, hands, one, other, most):
    """Return the ascending list of all hands that turn a layout into another one by at most so many deeds."""
    wrong = [name for name, habits in hands.items() if not is_word(name) or not is_habits(habits)]
    if len(wrong) > 0:
        raise InvalidHands(min(wrong))
    check_question(store, one, other, most)
    return sorted([name for name, habits in hands.items() if suffice(store, habits, one, other, most)])


def suffice(store, habits, one, other, most):
    """Tell whether a hand with these habits turns a layout into another one by at most so many deeds."""
    return least_deeds(store, habits, one, other, most) is not None


def least_habits(store, one, other, most):
    """Return the shortest habits with which a hand turns a layout into another one, or None."""
    check_question(store, one, other, most)
    for habits in sorted(subsets(WORDS), key=length_and_items):
        if suffice(store, habits, one, other, most):
            return habits
    return None
