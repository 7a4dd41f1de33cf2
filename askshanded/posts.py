"""The client's side of a game. A post is the pair `(state, known)` of a standing."""


class Posts:
    """All posts of a game, numbered from 0 on in `rows`, and what the client can tell there."""

    def __init__(self, pattern, ahead):
        self.pattern = pattern
        self._ahead = ahead
        self.rows = [(state, known) for state in range(pattern.size) for known in known_rows(pattern, state, ahead)]
        self.numbers = {row: number for number, row in enumerate(self.rows)}

    def is_marked(self, post):
        """Whether the client may stop at a post, whatever else it has told."""
        return self.rows[post][0] in self.pattern.marks

    def told_at(self, post):
        """What the client can tell at a post: pairs, ascending, or only None, or nothing if there is no turn."""
        state, known = self.rows[post]
        pairs = self.pattern.pairs_at(known[-1][1] if known else state)
        return (None,) if known and not pairs else pairs

    def turns_at(self, post):
        """For each step that the client can tell: the step, the ask that is handed over, and the post behind."""
        known = self.rows[post][1]
        if not known:
            return [(step, step[0], self.numbers[step[1], ()]) for step in self.told_at(post)]
        ask, way = known[0]
        later = known[1:]
        return [
            (step, ask, self.numbers[way, later if step is None else (*later, step)]) for step in self.told_at(post)
        ]

    def stem_of(self, post):
        """A post without the pair that was told last: the posts with one stem are all that a turn may lead to."""
        state, known = self.rows[post]
        return state, known[:-1] if len(known) == self._ahead else known

    def find_callers(self):
        """For each stem the posts from which a turn leads there, under the ask that is handed over."""
        found = {}
        for post, (state, known) in enumerate(self.rows):
            next_pairs = known[:1] if known else self.pattern.pairs_at(state)
            for ask, way in next_pairs:
                found.setdefault((way, known[1:]), {}).setdefault(ask, []).append(post)
        return found


def known_rows(pattern, state, ahead):
    """All rows of `ahead` pairs from a state, ascending; a row is shorter if it ends in a state without steps."""
    pairs = pattern.pairs_at(state)
    if ahead == 0 or not pairs:
        return [()]
    return [(pair, *rest) for pair in pairs for rest in known_rows(pattern, pair[1], ahead - 1)]
