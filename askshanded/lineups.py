"""The lot's side of a game. A lineup is the tuple of the services' states of a standing."""

from askshanded.lots import AWAY, replaced, rests


class Lineups:
    """All lineups of a game, numbered from 0 on in `tuples`.

    `choices[n]` has the states of service n. From one of them to the next, the number grows by `strides[n]`.
    """

    def __init__(self, lot, falls):
        self.lot = lot
        self.choices = [
            state_choices(service, state, falls) for service, state in zip(lot.services, lot.states)
        ]
        self.strides = []
        self.total = 1
        for states in self.choices:
            self.strides.append(self.total)
            self.total = self.total * len(states)
        self.tuples = [self.tuple_at(number) for number in range(self.total)]
        missing = lot.states.count(AWAY) + falls
        # The tuples in which more services fell out are no part of the game.
        self.numbers = {
            states: number for number, states in enumerate(self.tuples) if states.count(AWAY) <= missing
        }

    def tuple_at(self, number):
        """The tuple of states with a number."""
        return tuple([
            states[number // stride % len(states)] for states, stride in zip(self.choices, self.strides)
        ])

    def is_resting(self, lineup):
        """Whether each service rests or is away in a lineup."""
        return rests(self.lot, self.tuples[lineup])

    def ends_of(self, lineup, number, ask):
        """The ends to which a service can take an ask; none if it refuses, or if there is no such service."""
        if number < 0 or number >= len(self.lot):
            return ()
        return self.lot.services[number].ends_at(self.tuples[lineup][number], ask)

    def moves_of(self, lineup, number, ask):
        """The ends to which a service can take an ask, each with the lineup behind it."""
        ends = self.ends_of(lineup, number, ask)
        return [(end, lineup + (end - self.tuples[lineup][number]) * self.strides[number]) for end in ends]

    def options(self, lineup, ask):
        """For each service that takes an ask its number, and the lineups behind its ends."""
        moves = [self.moves_of(lineup, number, ask) for number in range(len(self.lot))]
        return [(number, [after for _, after in some]) for number, some in enumerate(moves) if some]

    def falls_at(self, lineup):
        """The pairs of a service that may fall out and the lineup behind that."""
        states = self.tuples[lineup]
        fallen = [(number, replaced(states, number, AWAY)) for number in range(len(states)) if states[number] != AWAY]
        return [(number, self.numbers[after]) for number, after in fallen if after in self.numbers]


def state_choices(service, state, falls):
    """The states that a service can have in a game that begins with `state`."""
    if state == AWAY:
        return [AWAY]
    return list(range(service.size)) + ([AWAY] if falls > 0 else [])
