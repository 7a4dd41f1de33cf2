"""The rounds in which standings are beaten, and sets of standings that grow by a rule.

A set of standings is a dict of posts with a crowd for each. A place is a standing by the numbers of its post
and its lineup.
"""

from askshanded.crowds import Crowds, shared, united, without


class Rounds:
    """The rounds of the beaten standings of a game: `levels` has a dict of lineups and rounds for each post.

    `beaten` is the set of these standings, with a crowd for every post.
    """

    def __init__(self, posts, lineups):
        self.posts = posts
        self.lineups = lineups
        self.crowds = Crowds(lineups)
        self.callers = posts.find_callers()
        self.levels = [{} for _ in posts.rows]
        self.beaten = {post: self.crowds.nobody for post in range(len(posts.rows))}
        # At first every post is fresh, as an ask that no service takes needs no beaten standing behind it.
        fresh = {post: self.bad_at(post) for post in self.beaten}
        level = 0
        while fresh:
            for post in fresh:
                self.beaten[post] = united(self.beaten[post], fresh[post])
                for lineup in self.crowds.lineups_in(fresh[post]):
                    self.levels[post][lineup] = level
            fresh = self.beaten_next(list(fresh))
            level = level + 1

    def bad_at(self, post):
        """The crowd of the bad standings of a post."""
        return self.crowds.restless if self.posts.is_marked(post) else self.crowds.nobody

    def beaten_next(self, changed):
        """The standings that are beaten in the next round, because of what was beaten last at some posts."""
        hits = {post: self.crowds.falling(self.beaten[post]) for post in changed}
        # Posts with the same stem and the same beaten lineups are taken together.
        kinds = {}
        for post in changed:
            kinds.setdefault(self.posts.stem_of(post), {})[self.beaten[post]] = True
        failing = {}
        for stem in kinds:
            callers = self.callers.get(stem, {})
            for beaten in kinds[stem]:
                for ask in callers:
                    if (ask, beaten) not in failing:
                        failing[ask, beaten] = self.crowds.failing(ask, beaten)
                    add_all(hits, callers[ask], failing[ask, beaten])
        fresh = {post: without(hits[post], self.beaten[post]) for post in hits}
        return {post: fresh[post] for post in fresh if any(fresh[post])}

    def places_in(self, standings):
        """The places of a set of standings, ascending."""
        posts = [post for post in range(len(self.levels)) if post in standings]
        return [(post, lineup) for post in posts for lineup in self.crowds.lineups_in(standings[post])]

    def standings_at(self, places):
        """The set of the standings at some places."""
        lineups = {}
        for post, lineup in places:
            lineups.setdefault(post, []).append(lineup)
        return {post: self.crowds.crowd_of(lineups[post]) for post in lineups}

    def safe_rows(self, post, lineup):
        """For each step that the client can tell at a safe standing, the step and the tuple of safe numbers."""
        rows = []
        options = {}
        for step, ask, post_behind in self.posts.turns_at(post):
            if ask not in options:
                options[ask] = self.lineups.options(lineup, ask)
            beaten = self.levels[post_behind]
            numbers = [number for number, afters in options[ask] if not any([after in beaten for after in afters])]
            rows.append((step, tuple(numbers)))
        return tuple(rows)


class Reaching:
    """The rule by which standings are reached: by safe numbers and falls.

    `used` has the pairs of an ask and a number that was safe for it.
    """

    def __init__(self, rounds):
        self._rounds = rounds
        self.used = {}

    def hits(self, post, crowd):
        """The standings that are one move behind those of a post and a crowd."""
        hits = {}
        moved = {}
        for _, ask, after in self._rounds.posts.turns_at(post):
            beaten = self._rounds.beaten[after]
            if (ask, beaten) not in moved:
                moved[ask, beaten] = self.moved(ask, crowd, beaten)
            add(hits, after, moved[ask, beaten])
        add(hits, post, self._rounds.crowds.fallen(crowd))
        return hits

    def moved(self, ask, crowd, beaten):
        """Where safe numbers lead from a crowd when the ask is handed over."""
        found = self._rounds.crowds.nobody
        for mover in self._rounds.crowds.takers(ask):
            safe = mover.safe(crowd, beaten)
            if any(safe):
                self.used[ask, mover.number] = True
                found = united(found, mover.targets(safe))
        return found


class Leading:
    """The rule by which the standings of a given set lead somewhere: by safe numbers."""

    def __init__(self, rounds, within):
        self._rounds = rounds
        self._within = within

    def hits(self, post, crowd):
        """The standings from which a safe number leads to those of a post and a crowd."""
        hits = {}
        beaten = self._rounds.beaten[post]
        callers = self._rounds.callers.get(self._rounds.posts.stem_of(post), {})
        for ask in callers:
            add_all(hits, callers[ask], self.leading(ask, crowd, beaten))
        return {before: shared(hits[before], self._within[before]) for before in hits if before in self._within}

    def leading(self, ask, crowd, beaten):
        """Where some safe number has an end that leads into a crowd when the ask is handed over."""
        found = self._rounds.crowds.nobody
        for mover in self._rounds.crowds.takers(ask):
            found = united(found, mover.safe(mover.sources(crowd), beaten))
        return found


def closure(rule, start):
    """The least set of standings that has those of `start`, and those that the rule hits from its own ones."""
    found = {post: start[post] for post in start}
    waiting = {post: start[post] for post in start}
    while waiting:
        for post in list(waiting):
            hits = rule.hits(post, waiting.pop(post))
            for after in hits:
                fresh = without(hits[after], found[after]) if after in found else hits[after]
                if any(fresh):
                    add(found, after, fresh)
                    add(waiting, after, fresh)
    return found


def add(standings, post, crowd):
    """Add the standings of a post and a crowd to a set of standings."""
    standings[post] = united(standings[post], crowd) if post in standings else crowd


def add_all(standings, posts, crowd):
    """Add the standings of several posts and a crowd to a set of standings."""
    if any(crowd):
        for post in posts:
            add(standings, post, crowd)
