"""A store that is used, with undoing, and trials that can be taken back."""

from coldcrates.checks import is_word
from coldcrates.deeds import exchanged
from coldcrates.errors import InvalidName, InvalidOperation, TakenPlace, UnknownCrate, UnknownKept
from coldcrates.stores import check_crate, check_door, check_layout, check_place, contents, warmth_of
from coldcrates.taking import ascends, step_warmth


class State:
    """What operations change; neither it nor a part of it is changed once it is made."""

    def __init__(self, layout, warmth, days, kept):
        self.layout = layout
        self.warmth = warmth
        self.days = days
        self.kept = kept


def behind_opening(state, layout, warmth):
    """Return the state with another layout, behind the opening of doors with so much warmth."""
    return State(layout, state.warmth + warmth, state.days, state.kept)


def behind_look(store, state, door):
    """Return the state behind a look, and what lies behind the door."""
    check_door(store, door)
    later = behind_opening(state, state.layout, warmth_of(store, [door]))
    return (later, contents(store, state.layout, door))


def behind_put(store, state, name, place):
    """Return the state behind a step, and the place where the crate lay."""
    check_crate(store, name)
    check_place(store, place)
    if state.layout[place] is not None:
        raise TakenPlace("a crate lies in this place")
    start = state.layout.index(name)
    later = behind_opening(state, exchanged(state.layout, start, place), step_warmth(store, start, place))
    return (later, start)


def behind_exchange(store, state, one, other):
    """Return the state behind an exchange of two crates, and whether the layout is in order then."""
    check_crate(store, one)
    check_crate(store, other)
    if one == other:
        raise UnknownCrate("a crate cannot be exchanged with itself")
    start, goal = state.layout.index(one), state.layout.index(other)
    layout = exchanged(state.layout, start, goal)
    return (behind_opening(state, layout, step_warmth(store, start, goal)), ascends(layout))


def behind_shut(_, state):
    """Return the state with the warmth written down, and this warmth."""
    return (State(state.layout, 0, state.days + (state.warmth,), state.kept), state.warmth)


def behind_keep_as(_, state, name):
    """Return the state with its main parts kept under a name, and whether something was kept under it."""
    if not is_word(name):
        raise InvalidName("this name is no word")
    kept = dict(state.kept)
    kept[name] = (state.layout, state.warmth, state.days)
    return (State(state.layout, state.warmth, state.days, kept), name in state.kept)


def behind_fetch(_, state, name):
    """Return the state to which what is kept under a name leads back, and its layout."""
    if name not in state.kept:
        raise UnknownKept("nothing is kept under this name")
    layout, warmth, days = state.kept[name]
    return (State(layout, warmth, days, state.kept), layout)


ACTIONS = {
    "look": behind_look,
    "put": behind_put,
    "exchange": behind_exchange,
    "shut": behind_shut,
    "keep_as": behind_keep_as,
    "fetch": behind_fetch,
}
ARGUMENT_COUNTS = {
    "look": 1, "put": 2, "exchange": 2, "shut": 0, "keep_as": 1, "fetch": 1, "undo": 0, "redo": 0,
}


def is_operation(value):
    """Tell whether a value is a tuple of the name of an operation, undo or redo, and as many arguments."""
    if not isinstance(value, tuple) or len(value) == 0 or not isinstance(value[0], str):
        return False
    return ARGUMENT_COUNTS.get(value[0]) == len(value) - 1


def check_operations(operations):
    """Raise InvalidOperation with the first item of a list that is no operation."""
    for at, operation in enumerate(operations):
        if not is_operation(operation):
            raise InvalidOperation(at)


class Live:
    """A store that is used."""

    def __init__(self, store, layout):
        check_layout(store, layout)
        self._store = store
        self._state = State(layout, 0, (), {})
        # The operations in effect, each one with the state ahead of it.
        self._past = ()
        self._undone = ()

    @property
    def layout_now(self):
        """The layout."""
        return self._state.layout

    @property
    def warmth_now(self):
        """All warmth since the last shut."""
        return self._state.warmth

    @property
    def day_warmths(self):
        """The list of what shut wrote down."""
        return list(self._state.days)

    @property
    def kept_under(self):
        """The ascending list of all names under which something is kept."""
        return sorted(list(self._state.kept))

    @property
    def history(self):
        """The list of all operations in effect."""
        return [operation for operation, _ in self._past]

    def look(self, door):
        """Open a door, and return what lies behind it."""
        return self._execute(("look", door))

    def put(self, name, place):
        """Put a crate in a free place, and return the place where it lay."""
        return self._execute(("put", name, place))

    def exchange(self, one, other):
        """Exchange two crates, and return whether the layout is in order then."""
        return self._execute(("exchange", one, other))

    def shut(self):
        """Write down the warmth of a day, and return it."""
        return self._execute(("shut",))

    def keep_as(self, name):
        """Keep layout and warmth under a name, and return whether something was kept under it."""
        return self._execute(("keep_as", name))

    def fetch(self, name):
        """Return to what is kept under a name, and return its layout."""
        return self._execute(("fetch", name))

    def undo(self):
        """Undo the last operation in effect, and return whether there was one."""
        if len(self._past) == 0:
            return False
        operation, state = self._past[-1]
        self._past = self._past[:-1]
        self._undone = self._undone + (operation,)
        self._state = state
        return True

    def redo(self):
        """Execute the operation undone last once more, and return whether there was one."""
        if len(self._undone) == 0:
            return False
        left = self._undone[:-1]
        self._execute(self._undone[-1])
        # Unlike other operations this one leaves what was undone before it.
        self._undone = left
        return True

    def apply_all(self, operations):
        """Execute a list of operations, all or none, and return the list of their results."""
        check_operations(operations)
        with Trial(self) as trial:
            told = [self._apply(operation) for operation in operations]
            trial.hold()
        return told

    def tried_out(self, operations, keep):
        """Execute a list of operations, keep what they change or not, and return the list of their results."""
        with Trial(self) as trial:
            told = self.apply_all(operations)
            if keep:
                trial.hold()
        return told

    @classmethod
    def replay(cls, store, layout, operations):
        """Return a live store behind a list of operations."""
        live = cls(store, layout)
        live.apply_all(operations)
        return live

    def _apply(self, operation):
        """Execute an operation, undo or redo, and return its result."""
        if operation[0] == "undo":
            return self.undo()
        if operation[0] == "redo":
            return self.redo()
        return self._execute(operation)

    def _execute(self, operation):
        """Execute an operation other than undo and redo, and return its result."""
        action = ACTIONS[operation[0]]
        told = operation[1:]
        state, result = action(self._store, self._state, *told)
        self._past = self._past + ((operation, self._state),)
        self._state = state
        self._undone = ()
        return result


class Trial:
    """A context manager: behind its block a live store is as ahead of it, unless hold was called."""

    def __init__(self, live):
        self._live = live
        self._state = None
        self._past = ()
        self._undone = ()

    def __enter__(self):
        live = self._live
        self._state = live._state
        self._past = live._past
        self._undone = live._undone
        return self

    def __exit__(self, kind, value, trace):
        live = self._live
        if self._state is None:
            return
        live._state = self._state
        live._past = self._past
        live._undone = self._undone

    def hold(self):
        """Let all that is done in the block stay."""
        self._state = None
