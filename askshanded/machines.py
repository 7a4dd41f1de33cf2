"""Machines: states, marked states, steps and a present state. Services and patterns are machines."""

from askshanded.duels import is_held
from askshanded.errors import BadCount, BadMachine, BadState, NoStep, TooLarge

MOST_STATES = 200
MOST_STEPS = 600
LONGEST_ASK = 8
LONGEST_ROW = 8


class Machine:
    """`size`, `marks` and `steps` (ascending, each once) of a machine, and its present state `now`."""

    def __init__(self, size, marks, steps, now=0):
        check_size(size)
        check_marks(size, marks)
        check_steps(size, steps)
        rows = ascending(steps)
        if len(rows) > MOST_STEPS:
            raise TooLarge(len(rows))
        if not 0 <= now < size:
            raise BadState(now)
        marked = {mark: True for mark in marks}
        self.size = size
        self.marks = tuple([state for state in range(size) if state in marked])
        self.steps = rows
        self.now = now
        self._ends = ends_by_ask(rows)
        self._pairs = pairs_by_state(rows)

    def __iter__(self):
        return iter(self.steps)

    def __getitem__(self, at):
        return self.ends_at(self.now, at)

    def __setitem__(self, at, worth):
        if worth not in self[at]:
            raise NoStep(at, worth)
        self.now = worth

    def __bool__(self):
        return self.now in self.marks

    def ends_at(self, state, ask):
        """The ends of an ask in a state, ascending; none in the state -1 of a service that is away."""
        return self._ends.get((state, ask), ())

    def pairs_at(self, state):
        """The pairs of ask and end of the steps from a state, ascending; none from -1."""
        return self._pairs.get(state, ())

    def has_several_ends(self):
        """Whether one state and ask have several ends."""
        return any([len(ends) > 1 for ends in self._ends.values()])


class Service(Machine):
    """A machine that takes asks, and rests in its marked states."""

    def twin(self, now):
        """A copy of the service, in the state `now`."""
        return Service(self.size, self.marks, self.steps, now)


class Pattern(Machine):
    """A machine that allows pairs of an ask and a way. The client may stop in the marked states."""

    def __le__(self, other):
        if not isinstance(other, Pattern):
            return NotImplemented
        return is_held(PatternDuel(self, other), (self.now, other.now))


class PatternDuel:
    """The duel in which the second pattern follows the steps of the first; a place has a state of each."""

    def __init__(self, first, second):
        self.first = first
        self.second = second

    def tasks_at(self, place):
        """A task for each step of the first pattern, with the second one's steps that have the same ask."""
        mine, theirs = place
        if mine in self.first.marks and theirs not in self.second.marks:
            return [[]]
        return [
            [[(way, other)] for other in self.second.ends_at(theirs, ask)]
            for ask, way in self.first.pairs_at(mine)
        ]


def ask_rows(pattern, length):
    """All tuples of at most `length` pairs that can be told in turn: shorter ones first, then ascending."""
    check_count(length, LONGEST_ROW)
    start = pattern.now
    for count in range(length + 1):
        yield from rows_from(pattern, start, count)


def rows_from(pattern, state, count):
    """All tuples of exactly `count` pairs that can be told in turn from a state, ascending."""
    if count == 0:
        yield ()
        return
    for pair in pattern.pairs_at(state):
        for rest in rows_from(pattern, pair[1], count - 1):
            yield (pair, *rest)


def check_count(count, most):
    """Raise an error if a count is not from 0 to `most`."""
    if count < 0 or count > most:
        raise BadCount(count)


def check_size(size):
    """Raise an error if a machine cannot have so many states."""
    if size < 1:
        raise BadMachine("size")
    if size > MOST_STATES:
        raise TooLarge(size)


def check_marks(size, marks):
    """Raise an error if a mark is no state."""
    for mark in marks:
        if not 0 <= mark < size:
            raise BadMachine("mark")


def check_steps(size, steps):
    """Raise an error if a step has an invalid state, ask or end."""
    for state, ask, end in steps:
        if not (0 <= state < size and is_ask(ask) and 0 <= end < size):
            raise BadMachine("step")


def is_ask(ask):
    """Whether a string is an ask."""
    return 1 <= len(ask) <= LONGEST_ASK and all(["a" <= letter <= "z" for letter in ask])


def ascending(steps):
    """The different steps, as a tuple in ascending order."""
    # The names order like the triples: states have at most three figures, and a blank precedes all letters.
    named = {f"{state:03d}{ask:<8}{end:03d}": (state, ask, end) for state, ask, end in steps}
    return tuple([named[name] for name in sorted([str(name) for name in named])])


def ends_by_ask(steps):
    """The tuple of the ends for each `(state, ask)`."""
    found = {}
    for state, ask, end in steps:
        found.setdefault((state, ask), []).append(end)
    return {place: tuple(found[place]) for place in found}


def pairs_by_state(steps):
    """The tuple of the pairs `(ask, end)` for each state that has steps."""
    found = {}
    for state, ask, end in steps:
        found.setdefault(state, []).append((ask, end))
    return {state: tuple(found[state]) for state in found}
