"""Points 6 to 12 once more, word by word and without any speed, to compare the program with."""

from itertools import product


class SlowGame:
    def __init__(self, pattern, services, states, ahead=0, falls=0):
        self.pattern, self.services, self.start = pattern, list(services), tuple(states)
        self.ahead, self.falls = ahead, falls
        self.standings = [
            (state, row, known) for state in range(pattern.size) for row in self.state_rows()
            for known in self.known_rows(state)
        ]
        self.first = [s for s in self.standings if s[0] == pattern.now and s[1] == self.start]
        self.rounds = self.struck()

    def pairs(self, state):
        return sorted((ask, way) for (at, ask, way) in self.pattern.steps if at == state)

    def size(self):
        most = max(len(self.pairs(state)) for state in range(self.pattern.size))
        size = self.pattern.size * (most + 1) ** self.ahead
        for service in self.services:
            size *= service.size + (1 if self.falls != 0 else 0)
        return size

    def state_rows(self):
        """All tuples of states in which those that begin away are away, and at most `falls` others."""
        rows = product(*[range(-1, service.size) for service in self.services])
        return [
            row for row in rows
            if all(now == -1 for now, begun in zip(row, self.start) if begun == -1) and self.fallen(row) <= self.falls
        ]

    def fallen(self, row):
        return sum(1 for now, begun in zip(row, self.start) if now == -1 and begun != -1)

    def known_rows(self, state):
        """All tuples of pairs that follow the pattern and have `ahead` pairs, or end in a state without steps."""
        pairs = sorted({(ask, way) for (_, ask, way) in self.pattern.steps})
        rows = [row for length in range(self.ahead + 1) for row in product(pairs, repeat=length)]
        return sorted(
            row for row in rows
            if self.follows(state, row) and (len(row) == self.ahead or not self.pairs(self.end(state, row)))
        )

    def follows(self, state, row):
        for ask, way in row:
            if (state, ask, way) not in self.pattern.steps:
                return False
            state = way
        return True

    def end(self, state, known):
        return known[-1][1] if known else state

    def told(self, standing):
        state, _, known = standing
        pairs = self.pairs(self.end(state, known))
        if pairs:
            return tuple(pairs)
        return (None,) if known else ()

    def turn(self, standing, step):
        """The ask that is handed over, and for each service that takes it the ends with the standings behind."""
        state, states, known = standing
        row = known if step is None else known + (step,)
        (ask, way), later = row[0], row[1:]
        takers = {}
        for number, (service, now) in enumerate(zip(self.services, states)):
            ends = sorted(end for (at, word, end) in service.steps if (at, word) == (now, ask))
            if ends:
                takers[number] = [(end, (way, put(states, number, end), later)) for end in ends]
        return ask, takers

    def falls_at(self, standing):
        state, states, known = standing
        if self.fallen(states) >= self.falls:
            return []
        return [(n, (state, put(states, n, -1), known)) for n in range(len(states)) if states[n] != -1]

    def is_bad(self, standing):
        state, states, _ = standing
        return state in self.pattern.marks and any(
            now != -1 and now not in service.marks for service, now in zip(self.services, states)
        )

    def struck(self):
        """The round of each beaten standing: strike standings until nothing changes."""
        rounds = {standing: 0 for standing in self.standings if self.is_bad(standing)}
        level = 0
        while True:
            level += 1
            more = [s for s in self.standings if s not in rounds and self.is_struck(s, rounds)]
            if not more:
                return rounds
            rounds.update({standing: level for standing in more})

    def is_struck(self, standing, rounds):
        for step in self.told(standing):
            takers = self.turn(standing, step)[1]
            if all(any(after in rounds for _, after in ends) for ends in takers.values()):
                return True
        return any(after in rounds for _, after in self.falls_at(standing))

    def safe_numbers(self, standing, step):
        takers = self.turn(standing, step)[1]
        return tuple(n for n, ends in takers.items() if not any(after in self.rounds for _, after in ends))

    def table(self):
        """The rows of each standing of the table."""
        rows, waiting = {}, list(self.first)
        while waiting:
            standing = waiting.pop()
            if standing in rows:
                continue
            rows[standing] = tuple((step, self.safe_numbers(standing, step)) for step in self.told(standing))
            for step, numbers in rows[standing]:
                takers = self.turn(standing, step)[1]
                waiting.extend(after for number in numbers for _, after in takers[number])
            waiting.extend(after for _, after in self.falls_at(standing))
        return rows

    def behind(self, standing, move):
        """The standing behind a move, or None if there is no such move."""
        step, number, end = move
        if end == -1:
            return dict(self.falls_at(standing)).get(number) if step is None else None
        if step not in self.told(standing):
            return None
        return dict(self.turn(standing, step)[1].get(number, [])).get(end)

    def fails(self, dealer, standing):
        return self.is_bad(standing) or any(
            dealer(standing, step) not in self.turn(standing, step)[1] for step in self.told(standing)
        )

    def moves_with(self, dealer, standing):
        """All moves that can come with what a dealer picks."""
        moves = [(None, number, -1) for number, _ in self.falls_at(standing)]
        for step in self.told(standing):
            number = dealer(standing, step)
            moves += [(step, number, end) for end, _ in self.turn(standing, step)[1].get(number, [])]
        return moves

    def shortest_failure(self, dealer):
        """How many moves it takes until the dealer fails, or None if it never does."""
        seen, level, length = set(self.first), list(self.first), 0
        while level:
            if any(self.fails(dealer, standing) for standing in level):
                return length
            behind = {self.behind(s, move) for s in level for move in self.moves_with(dealer, s)} - seen
            seen |= behind
            level, length = sorted(behind, key=repr), length + 1
        return None


def put(states, number, end):
    return states[:number] + (end,) + states[number + 1:]


def nodes_of(tree):
    """All nodes of a tree, each once."""
    found, waiting = {}, [tree]
    while waiting:
        node = waiting.pop()
        if id(node) not in found:
            found[id(node)] = node
            waiting.extend(branch for _, _, branch in node)
    return list(found.values())


def check_tree(test, slow, tree):
    """Point 12 at each node of a tree of a game."""
    nodes = nodes_of(tree)
    standings = [node.standing for node in nodes]
    test.assertEqual(len(set(standings)), len(standings), "equal standings share one node")
    for node in nodes:
        branches = list(node)
        test.assertEqual(node.depth, slow.rounds[node.standing])
        if node.deed == "stop":
            test.assertTrue(slow.is_bad(node.standing))
            test.assertEqual((branches, node.step, node.depth), ([], None, 0))
            continue
        test.assertFalse(slow.is_bad(node.standing))
        test.assertEqual(node.depth, 1 + max([branch.depth for _, _, branch in branches], default=0))
        if node.deed == "ask":
            test.assertIn(node.step, slow.told(node.standing))
            takers = slow.turn(node.standing, node.step)[1]
            test.assertEqual([number for number, _, _ in branches], sorted(takers))
            moves = [(node.step, number, end) for number, end, _ in branches]
        else:
            test.assertEqual((node.deed, node.step, len(branches)), ("fall", None, 1))
            moves = [(None, number, end) for number, end, _ in branches]
            test.assertEqual(moves[0][2], -1)
        for move, (_, _, branch) in zip(moves, branches):
            test.assertEqual(slow.behind(node.standing, move), branch.standing)
