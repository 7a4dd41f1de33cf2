"""The promises once more, word by word and without any speed, to compare the program with."""

from itertools import product

from askshanded.machines import Pattern, Service


def follows(first, second):
    """[13]: take pairs out of the relation until what is left is one."""
    relation = set(product(range(first.size), range(second.size)))
    while True:
        kept = {pair for pair in relation if follows_at(first, second, pair, relation)}
        if kept == relation:
            return (first.now, second.now) in relation
        relation = kept


def follows_at(first, second, pair, relation):
    a, b = pair
    if a in first.marks and b not in second.marks:
        return False
    return all(
        any((way, other) in relation for (at, word, other) in second.steps if (at, word) == (b, ask))
        for (state, ask, way) in first.steps if state == a
    )


def at_rest(services, states):
    return all(state == -1 or state in service.marks for service, state in zip(services, states))


def takers(services, states, ask):
    """For each service that takes the ask, the tuples of states behind its ends."""
    found = []
    for number, (service, state) in enumerate(zip(services, states)):
        ends = [end for (at, word, end) in service.steps if (at, word) == (state, ask)]
        if ends:
            found.append([states[:number] + (end,) + states[number + 1:] for end in ends])
    return found


def serves(pattern, services, states):
    """[9] and [10] with `ahead` and `falls` 0: round after round over all standings."""
    rows = [range(service.size) if state != -1 else [-1] for service, state in zip(services, states)]
    standings = set(product(range(pattern.size), product(*rows)))
    beaten = {s for s in standings if s[0] in pattern.marks and not at_rest(services, s[1])}
    while True:
        more = {s for s in standings - beaten if beaten_next(pattern, services, s, beaten)}
        if not more:
            return (pattern.now, tuple(states)) not in beaten
        beaten |= more


def beaten_next(pattern, services, standing, beaten):
    state, states = standing
    return any(
        all(any((way, after) in beaten for after in afters) for afters in takers(services, states, ask))
        for (at, ask, way) in pattern.steps if at == state
    )


def joint_pattern(services, states):
    """[15]: the joint machine as a pattern over all tuples of states, reached or not."""
    rows = [list(range(service.size)) + [-1] for service in services]
    names = list(product(*rows))
    numbers = {name: number for number, name in enumerate(names)}
    asks = {ask for service in services for (_, ask, _) in service.steps}
    steps = [
        (numbers[name], ask, numbers[after])
        for name in names for ask in asks for afters in takers(services, name, ask) for after in afters
    ]
    marks = [numbers[name] for name in names if at_rest(services, name)]
    return Pattern(len(names), marks, steps, numbers[tuple(states)])


def any_pattern(random, asks, most=4):
    size = random.randint(1, most)
    return Pattern(size, *any_parts(random, size, asks, 3))


def any_service(random, asks, single=False, most=3):
    size = random.randint(1, most)
    marks, steps, now = any_parts(random, size, asks, 2)
    if single:
        steps = [(state, ask, end) for (state, ask), end in {step[:2]: step[2] for step in steps}.items()]
    return Service(size, marks, steps, now)


def any_parts(random, size, asks, many):
    marks = [state for state in range(size) if random.random() < 0.6]
    steps = [
        (random.randrange(size), random.choice(asks), random.randrange(size))
        for _ in range(random.randint(0, many * size))
    ]
    return marks, steps, random.randrange(size)
