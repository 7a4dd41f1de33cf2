"""Who wins a game: tables of safe numbers for the dealer, or trees that beat every dealer; and dealers."""

from askshanded.errors import BadStanding, ChosenWrong, NoAsk, NoStep, Refused
from askshanded.lots import AWAY
from askshanded.rounds import Leading, Reaching, closure


class Table:
    """The standings that safe numbers reach in a game, each with its safe numbers.

    `reached` is the same set of standings by posts and crowds, and `used` has the pairs of an ask and a number
    that is safe for it at one of them.
    """

    def __init__(self, game):
        self.game = game
        self.rounds = game.find_rounds()
        rule = Reaching(self.rounds)
        first = [game.place_of(standing) for standing in game.first]
        self.reached = closure(rule, self.rounds.standings_at(first))
        self.used = rule.used
        self._places = {game.standing_at(place): place for place in self.rounds.places_in(self.reached)}

    def __len__(self):
        return len(self._places)

    def __iter__(self):
        return iter(self._places)

    def __contains__(self, x):
        return x in self._places

    def __getitem__(self, at):
        if at not in self._places:
            raise BadStanding(at)
        post, lineup = self._places[at]
        return self.rounds.safe_rows(post, lineup)

    def __le__(self, other):
        if not isinstance(other, Table):
            return NotImplemented
        for standing in self._places:
            if standing not in other or not has_rows(other[standing], self[standing]):
                return False
        return True

    def leading_to(self, standings):
        """The standings of the table, as a dict of True, from which safe numbers lead to some of these."""
        start = self.rounds.standings_at([self._places[standing] for standing in standings])
        found = closure(Leading(self.rounds, self.reached), start)
        return {self.game.standing_at(place): True for place in self.rounds.places_in(found)}

    def dealer(self, *favourites):
        """A dealer that picks the first favourite that is safe, otherwise the least safe number."""
        return Dealer([
            (standing, step, picked(numbers, favourites))
            for standing in self._places
            for step, numbers in self[standing]
        ])


class Tree:
    """What the client does at a standing to beat every dealer, with the trees for all that may follow."""

    def __init__(self, standing, deed, step, depth, branches):
        self.standing = standing
        self.deed = deed
        self.step = step
        self.depth = depth
        self._branches = tuple(branches)

    def __iter__(self):
        return iter(self._branches)


class Dealer:
    """A dealer that picks the number of the first row `(standing, step, number)`, otherwise `spare`."""

    def __init__(self, rows, *, spare=0):
        self._numbers = {}
        for standing, step, number in rows:
            self._numbers.setdefault((standing, step), number)
        self._spare = spare

    def __call__(self, standing, step):
        return self._numbers.get((standing, step), self._spare)


def settle(game):
    """The table of the game, or the tree of a beaten first standing with the least round."""
    rounds = game.find_rounds()
    beaten = {}
    for standing in game.first:
        post, lineup = game.place_of(standing)
        if lineup in rounds.levels[post]:
            beaten.setdefault(rounds.levels[post][lineup], (post, lineup))
    if not beaten:
        return Table(game)
    return tree_at(game, beaten[min([int(level) for level in beaten])])


def tree_from(game, standing):
    """The tree of a beaten standing, or None if the standing is safe."""
    post, lineup = game.place_of(standing)
    if lineup not in game.find_rounds().levels[post]:
        return None
    return tree_at(game, (post, lineup))


def beat(game, dealer):
    """None if the dealer never fails, otherwise a first standing and the shortest moves to a failure."""
    fresh = [game.place_of(standing) for standing in game.first]
    came = {place: None for place in fresh}
    while fresh:
        found = []
        # `found` is what `fresh` names next: a copy is walked, as no loop here changes what it walks.
        for place in list(fresh):
            moves = None if game.is_bad(place) else dealt_moves(game, dealer, place)
            if moves is None:
                return way_to(game, came, place)
            for move, after in moves:
                if after not in came:
                    came[after] = (place, move)
                    found.append(after)
        fresh = found
    return None


def hand(game, dealer, standing, step, end):
    """The number that the dealer picks, and the standing behind the turn."""
    post, lineup = game.place_of(standing)
    turns = {told: (ask, after) for told, ask, after in game.posts.turns_at(post)}
    if step not in turns:
        raise NoAsk(step)
    number = dealer(standing, step)
    ask, post_behind = turns[step]
    ends = {some: after for some, after in game.lineups.moves_of(lineup, number, ask)}
    if not ends:
        raise Refused(standing, step) from ChosenWrong(number)
    if end not in ends:
        raise NoStep(ask, end)
    return number, game.standing_at((post_behind, ends[end]))


def tree_at(game, place):
    """The tree of a beaten place."""
    levels = game.find_rounds().levels
    top = levels[place[0]][place[1]]
    deeds = {}
    by_level = [[] for _ in range(top + 1)]
    waiting = [place]
    while waiting:
        at = waiting.pop()
        if at not in deeds:
            deeds[at] = deed_at(game, at)
            by_level[levels[at[0]][at[1]]].append(at)
            waiting.extend([after for _, _, after in deeds[at][2]])
    trees = {}
    # The branches of a tree have lower rounds than itself, so they are made before it.
    for level, places in enumerate(by_level):
        for at in places:
            word, step, branches = deeds[at]
            behind = [(number, end, trees[after]) for number, end, after in branches]
            trees[at] = Tree(game.standing_at(at), word, step, level, behind)
    return trees[place]


def deed_at(game, place):
    """The deed of a tree at a beaten place, its step, and its branches with places instead of trees."""
    post, lineup = place
    levels = game.find_rounds().levels[post]
    level = levels[lineup]
    if level == 0:
        return "stop", None, []
    for step, ask, after in game.posts.turns_at(post):
        branches = ask_branches(game, place, ask, after)
        if branches is not None:
            return "ask", step, branches
    falls = [(number, after) for number, after in game.lineups.falls_at(lineup) if levels.get(after, level) < level]
    number, after = falls[0]
    return "fall", None, [(number, AWAY, (post, after))]


def ask_branches(game, place, ask, post_behind):
    """For each service that takes the ask, a branch to a place of a lower round; None if one has no such end."""
    post, lineup = place
    level = game.find_rounds().levels[post][lineup]
    behind = game.find_rounds().levels[post_behind]
    branches = []
    for number in range(len(game.lot)):
        moves = game.lineups.moves_of(lineup, number, ask)
        lower = [(number, end, (post_behind, after)) for end, after in moves if behind.get(after, level) < level]
        if moves and not lower:
            return None
        branches.extend(lower[:1])
    return branches


def dealt_moves(game, dealer, place):
    """The moves that can come with what the dealer picks, and the places behind; None if the dealer fails."""
    post, lineup = place
    standing = game.standing_at(place)
    moves = [((None, number, AWAY), (post, after)) for number, after in game.lineups.falls_at(lineup)]
    for step, ask, post_behind in game.posts.turns_at(post):
        number = dealer(standing, step)
        ends = game.lineups.moves_of(lineup, number, ask)
        if not ends:
            return None
        moves.extend([((step, number, end), (post_behind, after)) for end, after in ends])
    return moves


def way_to(game, came, place):
    """The first standing and the moves on the way to a place. `came` has a place and a move for each place."""
    moves = []
    at = place
    while came[at] is not None:
        at, move = came[at]
        moves.append(move)
    return game.standing_at(at), moves[::-1]


def has_rows(rows, fewer):
    """Whether some rows of a table have each step of some others, with at least their numbers."""
    found = {step: numbers for step, numbers in rows}
    return all([
        step in found and all([number in found[step] for number in numbers]) for step, numbers in fewer
    ])


def picked(numbers, favourites):
    """The first favourite among the numbers, otherwise the least number."""
    for favourite in favourites:
        if favourite in numbers:
            return favourite
    return numbers[0]
