"""Crowds: sets of the lineups of a game, and where the moves of the lot lead a whole set at once.

A game may have 20,000 standings with 600 asks at each: so its lineups are not looked at one by one. A crowd is
a tuple of integers, called words, with a bit for each lineup: WORD of them in a word, in ascending order.
"""

from askshanded.lots import AWAY

# As many bits have less than 900 digits, and no integer here is to have more.
WORD = 2900


class Crowds:
    """The crowds of a game, and the moves of its services over them."""

    def __init__(self, lineups):
        self._words = (lineups.total + WORD - 1) // WORD
        everywhere = range(lineups.total)
        self.nobody = self.crowd_of([])
        self.everybody = self.crowd_of(list(everywhere))
        self.restless = self.crowd_of([at for at in everywhere if not lineups.is_resting(at)])
        self._unsteady = self.crowd_of([at for at in everywhere if lineups.falls_at(at)])
        self._movers = {}
        self._fallers = []
        for number, service in enumerate(lineups.lot.services):
            if lineups.lot.states[number] != AWAY:
                self.add_movers(lineups, number, service)

    def add_movers(self, lineups, number, service):
        """Add what a service can do with each ask, and its falls. It is not away from the beginning."""
        stride = lineups.strides[number]
        crowds = self.crowds_by_choice(lineups, number)
        steps = {}
        for state, ask, end in service.steps:
            steps.setdefault(ask, []).append((state, end))
        for ask in steps:
            mover = Mover(number, self.everybody, links_of(steps[ask], stride, crowds))
            self._movers.setdefault(ask, []).append(mover)
        if AWAY in lineups.choices[number]:
            # To be away is the choice behind the states of the service.
            falls = [(state, service.size) for state in range(service.size)]
            self._fallers.append(Mover(number, self.everybody, links_of(falls, stride, crowds)))

    def crowds_by_choice(self, lineups, number):
        """For each choice of a service the crowd of the lineups that have it."""
        many = len(lineups.choices[number])
        found = [[] for _ in range(many)]
        for lineup in range(lineups.total):
            found[lineup // lineups.strides[number] % many].append(lineup)
        return [self.crowd_of(some) for some in found]

    def crowd_of(self, lineups):
        """The crowd of some lineups."""
        words = [0 for _ in range(self._words)]
        for lineup in lineups:
            words[lineup // WORD] = words[lineup // WORD] | 1 << lineup % WORD
        return tuple(words)

    def lineups_in(self, crowd):
        """The lineups in a crowd, ascending."""
        found = []
        for at, word in enumerate(crowd):
            left = word
            while left:
                lowest = left & -left
                found.append(at * WORD + lowest.bit_length() - 1)
                left = left ^ lowest
        return found

    def takers(self, ask):
        """The movers of the services that take the ask in some state, by ascending numbers."""
        return self._movers.get(ask, [])

    def failing(self, ask, beaten):
        """Where each service that takes the ask has an end that leads to a beaten lineup."""
        hits = self.everybody
        for mover in self.takers(ask):
            fails = mover.sources(beaten)
            hits = tuple([hit & (fail | idle) for hit, fail, idle in zip(hits, fails, mover.idle)])
        return hits

    def falling(self, beaten):
        """Where a fall leads to a beaten lineup."""
        hits = self.nobody
        for faller in self._fallers:
            hits = united(hits, shared(self._unsteady, faller.sources(beaten)))
        return hits

    def fallen(self, crowd):
        """Where the falls lead from a crowd."""
        found = self.nobody
        for faller in self._fallers:
            found = united(found, faller.targets(shared(self._unsteady, crowd)))
        return found


class Mover:
    """What the service `number` can do with one ask, or by falling out.

    A link is `(start, end, starts, ends, up, down)`: the lineups of the word `start` that are in `starts` come
    to the word `end` and there to `ends`, `up` bits up or `down` bits down. `idle` is the crowd of the lineups
    in which the service refuses.
    """

    def __init__(self, number, everybody, links):
        self.number = number
        self._links = links
        idle = list(everybody)
        for start, _, starts, _, _, _ in links:
            idle[start] = idle[start] & ~starts
        self.idle = tuple(idle)

    def sources(self, crowd):
        """The lineups from which some end leads into a crowd."""
        found = [0 for _ in crowd]
        if any(crowd):
            for start, end, _, ends, up, down in self._links:
                found[start] = found[start] | (crowd[end] & ends) << down >> up
        return tuple(found)

    def targets(self, crowd):
        """The lineups to which the ends lead from a crowd."""
        found = [0 for _ in crowd]
        if any(crowd):
            for start, end, starts, _, up, down in self._links:
                found[end] = found[end] | (crowd[start] & starts) << up >> down
        return tuple(found)

    def safe(self, crowd, beaten):
        """The lineups of a crowd in which the service takes the ask and no end leads to a beaten lineup."""
        fails = self.sources(beaten)
        return tuple([some & ~(fail | idle) for some, fail, idle in zip(crowd, fails, self.idle)])


def links_of(steps, stride, crowds):
    """The links for steps between choices of a service, each with its crowd of lineups."""
    starts = {}
    for start, end in steps:
        far = (end - start) * stride
        # Steps that lead equally far are taken together.
        starts[far] = united(starts[far], crowds[start]) if far in starts else crowds[start]
    return [link for far in starts for at, word in enumerate(starts[far]) for link in word_links(at, word, far)]


def word_links(at, word, far):
    """The links of the lineups in a word, each of which comes to the lineup that is `far` places further on."""
    leap, up = divmod(far, WORD)
    down = WORD - up
    staying = word & (1 << down) - 1
    passing = word >> down
    links = [(at, at + leap, staying, staying << up, up, 0)] if staying else []
    return links + ([(at, at + leap + 1, passing << down, passing, 0, down)] if passing else [])


def united(first, second):
    """The lineups that are in one of two crowds or in both."""
    return tuple([one | other for one, other in zip(first, second)])


def shared(first, second):
    """The lineups that are in both of two crowds."""
    return tuple([one & other for one, other in zip(first, second)])


def without(first, second):
    """The lineups of the first crowd that are not in the second one."""
    return tuple([one & ~other for one, other in zip(first, second)])
