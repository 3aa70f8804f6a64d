"""A live store as the document tells it, to compare the package with."""

import copy

from coldcrates.errors import InvalidName, TakenPlace, UnknownCrate, UnknownDoor, UnknownKept, UnknownPlace


def told_by(live):
    """Return all that the properties of a live store tell."""
    return (live.layout_now, live.warmth_now, live.day_warmths, live.kept_under, live.history)


class Model:
    """A live store as the document tells it: from the beginning on, by all operations in effect."""

    def __init__(self, store, layout):
        self.store, self.layout = store, layout
        self.history, self.undone = [], []

    def told_by(self, history):
        """Return layout, warmth, days and what is kept behind operations, and the result of the last one."""
        lying, warmth, days, kept, result = list(self.layout), 0, [], {}, None
        for word, *told in history:
            if word == "look":
                warmth += self.store.doors[told[0]][0]
                result = tuple(lying[place] for place in self.store.places_of(told[0]))
            elif word in ("put", "exchange"):
                start = lying.index(told[0])
                goal = told[1] if word == "put" else lying.index(told[1])
                lying[start], lying[goal] = lying[goal], lying[start]
                doors = {self.store.door_of(start), self.store.door_of(goal)}
                warmth += sum(self.store.doors[door][0] for door in doors)
                names = [name for name in lying if name]
                result = start if word == "put" else names == sorted(names)
            elif word == "shut":
                days, warmth, result = days + [warmth], 0, warmth
            elif word == "keep_as":
                result = told[0] in kept
                kept[told[0]] = (list(lying), warmth, list(days))
            else:
                lying, warmth, days = copy.deepcopy(kept[told[0]])
                result = tuple(lying)
        return (tuple(lying), warmth, days, sorted(kept), result)

    def error(self, word, *told):
        """Return the error that an operation raises now, or None."""
        lying, _, _, kept, _ = self.told_by(self.history)
        if word == "look":
            return None if told[0] in range(len(self.store)) else UnknownDoor
        if word == "put":
            if told[0] not in lying:
                return UnknownCrate
            if told[1] not in range(self.store.size):
                return UnknownPlace
            return None if lying[told[1]] is None else TakenPlace
        if word == "exchange":
            return None if len(set(told) & set(self.store.crates)) == 2 else UnknownCrate
        if word == "keep_as":
            return None if told[0].isalpha() and told[0].islower() and len(told[0]) < 9 else InvalidName
        return None if word == "shut" or told[0] in kept else UnknownKept

    def apply(self, operation):
        """Execute an operation that raises no error, undo and redo among them, and return its result."""
        if operation == ("undo",):
            if self.history:
                self.undone.append(self.history.pop())
                return True
            return False
        if operation == ("redo",):
            if self.undone:
                self.history.append(self.undone.pop())
                return True
            return False
        self.history.append(operation)
        self.undone = []
        return self.told_by(self.history)[4]
