"""Stores of all sizes, which some tests share."""

import random

from coldcrates.stores import Store

LETTERS = "abcdefghijklmnopqrstuvwxyz"


def some_store(rng):
    """Return a store with any number of doors, places and crates."""
    while True:
        doors = tuple((rng.randint(1, 99), rng.randint(1, 4)) for _ in range(rng.randint(1, 4)))
        size = sum(places for _, places in doors)
        if size <= 6:
            break
    crates = set()
    count = rng.randint(1, min(5, size))
    while len(crates) < count:
        crates.add("".join(rng.choices(LETTERS, k=rng.randint(1, 8))))
    return Store(doors, tuple(sorted(crates)))


def some_stores(seed, count):
    rng = random.Random(seed)
    return [some_store(rng) for _ in range(count)]
