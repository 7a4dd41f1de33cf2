"""Questions about patterns and lots that games answer."""

from askshanded.dealing import Table, settle
from askshanded.errors import BadCount, BadState
from askshanded.games import Game
from askshanded.lots import AWAY, Joint, Lot, check_number, check_single_ends
from askshanded.lots import numbered_steps, reached_moves, replaced, rests, takings
from askshanded.machines import Pattern, check_count

MOST_COPIES = 5


def fewest(pattern, lot):
    """The fewest services that serve a pattern, their table, and the trees for fewer ones."""
    trees = []
    for numbers in number_rows(present_numbers(lot)):
        outcome = settle(Game(pattern, part_of(lot, numbers)))
        if isinstance(outcome, Table):
            return numbers, outcome, [row for row in trees if len(row[0]) < len(numbers)]
        trees.append((numbers, outcome))
    return None, None, trees


def copies(pattern, service, *, most):
    """The fewest copies of a service that serve a pattern, their table, and the trees for fewer ones."""
    check_count(most, MOST_COPIES)
    trees = []
    for count in range(most + 1):
        services = [service for _ in range(count)]
        outcome = settle(Game(pattern, Lot(*services)))
        if isinstance(outcome, Table):
            return count, outcome, trees
        trees.append(outcome)
    return None, None, trees


def never(table):
    """The pairs of an ask of the pattern and the number of a service that is safe for it nowhere, ascending."""
    asks = {ask: True for _, ask, _ in table.game.pattern.steps}
    return [
        (ask, number)
        for ask in sorted([str(ask) for ask in asks])
        for number in range(len(table.game.lot)) if (ask, number) not in table.used
    ]


def serves_without(pattern, lot, number):
    """Whether a lot serves a pattern while a service is away."""
    check_number(lot, number)
    rest = lot + Lot()
    rest.set_states(replaced(lot.states, number, AWAY))
    return isinstance(settle(Game(pattern, rest)), Table)


def narrowing(pattern, lot):
    """The greatest narrowing of a pattern for a lot, and the standings of its states."""
    check_single_ends(lot)
    moves = reached_moves(Turns(pattern, lot), (pattern.now, lot.states, ()))
    marks = [
        number for number, (state, states, _) in enumerate(moves)
        if state in pattern.marks and rests(lot, states)
    ]
    return Pattern(len(moves), marks, numbered_steps(moves)), tuple(moves)


class Turns:
    """The turns of a game in which nothing is told in advance, past bad standings too."""

    def __init__(self, pattern, lot):
        self._pattern = pattern
        self._lot = lot

    def moves_at(self, standing):
        """The turns at a standing: pairs of the ask that is handed over and the standing behind it."""
        state, states, known = standing
        return [
            (ask, (way, after, known))
            for ask, way in self._pattern.pairs_at(state)
            for afters in takings(self._lot, states, ask)
            for after in afters
        ]


def least_pattern(first, second):
    """None if the second lot serves what the first one serves, otherwise the shortest pattern that it does not."""
    if first <= second:
        return None
    joint = Joint(first)
    tree = settle(Game(joint, part_of(second, present_numbers(second))))
    places, steps = layers(tree)
    marks = [number for number, (_, state) in enumerate(places) if state in joint.marks]
    names = [joint.names[state] for _, state in places]
    return Pattern(len(places), marks, steps), tuple(names)


def layers(tree):
    """The places of a pattern that beats every dealer as a tree does, and the steps between their numbers.

    A place has the number of turns before it and the pattern's state in the tree. The client does not know
    there which of the tree's standings with that state it will come to, so it may tell what any of them tells.
    """
    numbers = {(0, tree.standing[0]): 0}
    steps = []
    layer = 0
    trees = {tree.standing: tree}
    while trees:
        for standing in trees:
            if trees[standing].deed == "ask":
                ask, way = trees[standing].step
                behind = numbers.setdefault((layer + 1, way), len(numbers))
                steps.append((numbers[layer, standing[0]], ask, behind))
        trees = trees_below(trees)
        layer = layer + 1
    return list(numbers), steps


def trees_below(trees):
    """The trees of the branches of some trees, by their standings."""
    return {branch.standing: branch for standing in trees for _, _, branch in trees[standing]}


def exchange(table, newer, *, mapping, number=None):
    """The standings of a table at which a newer machine may take over, and those from which it always may."""
    game = table.game
    if game.ahead != 0:
        raise BadCount(game.ahead)
    if game.falls != 0:
        raise BadCount(game.falls)
    older = game.pattern if number is None else game.lot[number]
    if len(mapping) != older.size or not all([0 <= state < newer.size for state in mapping]):
        raise BadState(mapping)
    later = exchanged_game(game, newer, number)
    beaten = later.find_rounds()
    bad = {}
    for standing in table:
        post, lineup = later.place_of(exchanged(standing, mapping, number))
        if lineup in beaten.levels[post]:
            bad[standing] = True
    unsure = table.leading_to(bad)
    good = [standing for standing in table if standing not in bad]
    return good, [standing for standing in good if standing not in unsure]


def exchanged_game(game, newer, number):
    """The game with a newer pattern, or with a newer service in the place of the one with a number."""
    if number is None:
        return Game(newer, game.lot)
    lot = game.lot + Lot()
    lot[number] = newer
    return Game(game.pattern, lot)


def exchanged(standing, mapping, number):
    """The standing behind the exchange of the pattern, or of the service with a number."""
    state, states, known = standing
    if number is None:
        return mapping[state], states, known
    return state, replaced(states, number, mapping[states[number]]), known


def present_numbers(lot):
    """The numbers of the services that are not away."""
    return [number for number, state in enumerate(lot.states) if state != AWAY]


def part_of(lot, numbers):
    """The services with these numbers as a lot of their own."""
    services = [lot[number] for number in numbers]
    return Lot(*services)


def number_rows(numbers):
    """All tuples of some of the numbers, which ascend: shorter ones first, then ascending."""
    return [row for count in range(len(numbers) + 1) for row in rows_of(numbers, count)]


def rows_of(numbers, count):
    """All tuples of exactly `count` of the numbers, which ascend, ascending."""
    if count == 0:
        return [()]
    return [
        (number, *rest)
        for at, number in enumerate(numbers)
        for rest in rows_of(numbers[at + 1:], count - 1)
    ]
