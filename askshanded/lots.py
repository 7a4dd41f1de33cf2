"""Lots: rows of services with their present states, some of which may be away; joint machines."""

from askshanded.duels import is_held
from askshanded.errors import BadNumber, BadState, SeveralEnds, TooLarge
from askshanded.machines import MOST_STATES, Pattern, Service

MOST_SERVICES = 5
AWAY = -1


class Lot:
    """A row of services. Only `states` tells where they are: the copies in `services` never move."""

    def __init__(self, *services):
        if len(services) > MOST_SERVICES:
            raise TooLarge(len(services))
        self.services = tuple([service.twin(service.now) for service in services])
        self.states = tuple([service.now for service in services])

    def __len__(self):
        return len(self.services)

    def __bool__(self):
        return bool(rests(self, self.states))

    def __iter__(self):
        # Without this, Python would take items by number until an IndexError, which never comes.
        raise TypeError("a lot is not iterated over")

    def set_states(self, states):
        """Set the present states: for each service a state of it, or -1 if it is away."""
        if len(states) != len(self.services) or not are_states(self.services, states):
            raise BadState(states)
        self.states = tuple(states)

    def moves_at(self, states):
        """What the lot can take in a tuple of states: pairs of an ask and the tuple of states behind it."""
        return [
            (ask, replaced(states, number, end))
            for number, service in enumerate(self.services)
            for ask, end in service.pairs_at(states[number])
        ]

    def __getitem__(self, at):
        check_number(self, at)
        if self.states[at] == AWAY:
            raise BadNumber(at)
        return self.services[at].twin(self.states[at])

    def __setitem__(self, at, worth):
        check_number(self, at)
        self.services = replaced(self.services, at, worth.twin(worth.now))
        self.states = replaced(self.states, at, worth.now)

    def __add__(self, other):
        behind = other if isinstance(other, Lot) else Lot(other)
        services = (*self.services, *behind.services)
        lot = Lot(*services)
        # The new lot has its services where they stood when they were given, and none of them away.
        lot.states = (*self.states, *behind.states)
        return lot

    def __iadd__(self, other):
        lot = self + other
        self.services = lot.services
        self.states = lot.states
        return self

    def __le__(self, other):
        if not isinstance(other, Lot):
            return NotImplemented
        check_single_ends(self)
        return is_held(LotDuel(self, other), (self.states, other.states))


class LotDuel:
    """The duel in which the second lot takes all that the first one can take.

    A place has a tuple of states of each. What the first lot tells is its joint machine, which is not
    built here, as a lot that is too large for a machine can be compared nevertheless.
    """

    def __init__(self, first, second):
        self.first = first
        self.second = second

    def tasks_at(self, place):
        """A task for each move of the first lot, with the second one's services that take the ask."""
        mine, theirs = place
        if rests(self.first, mine) and not rests(self.second, theirs):
            return [[]]
        return [
            [[(after, behind) for behind in afters] for afters in takings(self.second, theirs, ask)]
            for ask, after in self.first.moves_at(mine)
        ]


class Held:
    """What an Away puts back: the services and the states of its lot, and what it held before."""

    def __init__(self, services, states, before):
        self.services = services
        self.states = states
        self.before = before


class Away:
    """`with Away(lot, number) as same:` has the service away inside, and the lot as before afterwards."""

    def __init__(self, lot, number):
        check_number(lot, number)
        self._lot = lot
        self._number = number
        self._held = None

    def __enter__(self):
        lot = self._lot
        # Since the Away was created, another one may have put back a shorter lot.
        check_number(lot, self._number)
        self._held = Held(lot.services, lot.states, self._held)
        lot.states = replaced(lot.states, self._number, AWAY)
        return lot

    def __exit__(self, kind, value, trace):
        lot = self._lot
        lot.services = self._held.services
        lot.states = self._held.states
        self._held = self._held.before


class Joint(Service, Pattern):
    """The joint machine of a lot. `names` has the lot's tuple of states for each of its states."""

    def __init__(self, lot):
        check_single_ends(lot)
        moves = reached_moves(lot, lot.states)
        marks = [number for number, name in enumerate(moves) if rests(lot, name)]
        super().__init__(len(moves), marks, numbered_steps(moves))
        self.names = tuple(moves)
        self._lot = lot + Lot()

    def twin(self, now):
        """A copy of the joint machine, in the state `now`."""
        joint = Joint(self._lot)
        joint.now = now
        return joint


def check_number(lot, number):
    """Raise an error if the lot has no service with this number."""
    if number < 0 or number >= len(lot.services):
        raise BadNumber(number)


def check_single_ends(lot):
    """Raise an error for the first service, not away, that has several ends for one state and ask."""
    for number, service in enumerate(lot.services):
        if lot.states[number] != AWAY and service.has_several_ends():
            raise SeveralEnds(number)


def are_states(services, states):
    """Whether each of as many states is one of its service, or -1."""
    return all([AWAY <= state < service.size for service, state in zip(services, states)])


def rests(lot, states):
    """Whether the lot rests in a tuple of states."""
    return all([state == AWAY or state in service.marks for service, state in zip(lot.services, states)])


def replaced(row, at, worth):
    """A tuple like `row`, with `worth` at one place."""
    return (*row[:at], worth, *row[at + 1:])


def takings(lot, states, ask):
    """For each service that takes the ask in a tuple of states, the list of the tuples behind its ends."""
    return [
        [replaced(states, number, end) for end in service.ends_at(states[number], ask)]
        for number, service in enumerate(lot.services)
        if service.ends_at(states[number], ask)
    ]


def reached_moves(walk, start):
    """The moves at each place that is reached from `start`, which comes first.

    A walk has `moves_at(place)`: a list of pairs of an ask and the place behind it.
    """
    moves = {}
    found = [start]
    while found:
        place = found.pop()
        if place not in moves:
            moves[place] = walk.moves_at(place)
            found.extend([after for ask, after in moves[place]])
        # A lot alone can reach 200 to the power of 5 tuples: stop where no machine can have them any more.
        if len(moves) > MOST_STATES:
            raise TooLarge(len(moves))
    return moves


def numbered_steps(moves):
    """The steps of a machine whose states are the places that have moves, in their order."""
    numbers = {place: number for number, place in enumerate(moves)}
    return [(numbers[place], ask, numbers[after]) for place in moves for ask, after in moves[place]]
