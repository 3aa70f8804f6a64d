"""How crates are taken out, and put in order, with the least warmth."""

from heapq import heappop, heappush

from coldcrates.deeds import exchanged
from coldcrates.errors import InvalidNames, InvalidPairs
from coldcrates.stores import all_layouts, arrangements, check_layout, warmth_in_turn, warmth_of


def takings(store, layout, names, pairs):
    """Return the least warmth to take crates out, and the first order by which it is enough, or None."""
    check_layout(store, layout)
    if not are_crates(store, names):
        raise InvalidNames("these are not different crates of the store")
    check_pairs(store, pairs)
    orders = arrangements(tuple(sorted(names)), 0)
    told = [(opening_warmth(store, layout, order), order) for order in orders if keeps_pairs(order, pairs)]
    return min(told, default=None)


def are_crates(store, value):
    """Tell whether a value is a tuple of different crates."""
    if not isinstance(value, tuple) or not all([name in store.crates for name in value]):
        return False
    return len(set(value)) == len(value)


def check_pairs(store, pairs):
    """Raise InvalidPairs if an item of the pairs is no tuple of two different crates."""
    for at, pair in enumerate(pairs):
        if not are_crates(store, pair) or len(pair) != 2:
            raise InvalidPairs(at)


def keeps_pairs(order, pairs):
    """Tell whether the one crate of each pair is ahead of the other, if both are taken."""
    taken = [pair for pair in pairs if pair[0] in order and pair[1] in order]
    return all([order.index(one) < order.index(other) for one, other in taken])


def opening_warmth(store, layout, order):
    """Return the warmth of all openings if crates are taken out in this order."""
    return warmth_in_turn(store, [store.door_of(layout.index(name)) for name in order])


def least_steps(store, layout, goal):
    """Return the least warmth to turn a layout into a goal, and the least steps for it, or None."""
    check_layout(store, layout)
    check_layout(store, goal)
    told = least_way(store, layout, {goal: True})
    if told is None:
        return None
    return told[:2]


def is_sorted(store, layout):
    """Tell whether the names of the crates ascend from place to place."""
    check_layout(store, layout)
    return ascends(layout)


def ascends(layout):
    """Tell whether the names in what surely is a layout ascend."""
    names = [name for name in layout if name is not None]
    return names == sorted(names)


def least_sorting(store, layout):
    """Return the least warmth to put a layout in order, the least steps for it, and the layout behind, or None."""
    check_layout(store, layout)
    goals = {goal: True for goal in all_layouts(store) if ascends(goal)}
    return least_way(store, layout, goals)


def least_way(store, layout, goals):
    """Return the least warmth to turn a layout into a key of the goals, the steps, and that goal, or None."""
    # Ways with less warmth come first, of these shorter ones, of these those with lesser steps.
    queue = [(0, 0, (), layout)]
    done = {}
    while len(queue) > 0:
        warmth, many, steps, reached = heappop(queue)
        if reached in goals:
            return (warmth, list(steps), reached)
        if reached in done:
            continue
        done[reached] = True
        for step in all_steps(reached):
            start = reached.index(step[0])
            more = step_warmth(store, start, step[1])
            heappush(queue, (warmth + more, many + 1, steps + (step,), exchanged(reached, start, step[1])))
    return None


def all_steps(layout):
    """Return the list of all steps that can be made in a layout."""
    free = [place for place, name in enumerate(layout) if name is None]
    return [(name, place) for name in layout if name is not None for place in free]


def step_warmth(store, one, other):
    """Return the warmth of the doors of two places, opened once if it is the same one."""
    return warmth_of(store, sorted({store.door_of(one), store.door_of(other)}))
