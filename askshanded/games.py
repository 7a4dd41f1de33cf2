"""Games of a client, who follows a pattern, against a dealer, who has a lot."""

from askshanded.errors import BadStanding, TooLarge
from askshanded.lineups import Lineups
from askshanded.lots import Lot
from askshanded.machines import Pattern, check_count
from askshanded.posts import Posts, known_rows
from askshanded.rounds import Rounds

MOST_AHEAD = 4
MOST_FALLS = 5
LARGEST_GAME = 20000


class Game:
    """The game from the present states of a pattern and a lot. `first` has its first standings.

    A place is a standing by the numbers of its post and its lineup.
    """

    def __init__(self, pattern, lot, *, ahead=0, falls=0):
        check_count(ahead, MOST_AHEAD)
        check_count(falls, MOST_FALLS)
        size = game_size(pattern, lot, ahead, falls)
        if size > LARGEST_GAME:
            raise TooLarge(size)
        self.size = size
        self.ahead = ahead
        self.falls = falls
        self.pattern = Pattern(pattern.size, pattern.marks, pattern.steps, pattern.now)
        self.lot = lot + Lot()
        self.posts = Posts(self.pattern, ahead)
        self.lineups = Lineups(self.lot, falls)
        rows = known_rows(self.pattern, self.pattern.now, ahead)
        self.first = tuple([(self.pattern.now, self.lot.states, known) for known in rows])
        self._rounds = None

    def told(self, standing):
        """What the client can tell: pairs, ascending, or only None, or nothing if there is no turn."""
        post, _ = self.place_of(standing)
        return self.posts.told_at(post)

    def place_of(self, standing):
        """The place of a standing; raises BadStanding if this is no standing of the game."""
        state, states, known = standing
        if (state, known) not in self.posts.numbers or states not in self.lineups.numbers:
            raise BadStanding(standing)
        return self.posts.numbers[state, known], self.lineups.numbers[states]

    def standing_at(self, place):
        """The standing at a place."""
        post, lineup = place
        state, known = self.posts.rows[post]
        return state, self.lineups.tuples[lineup], known

    def is_bad(self, place):
        """Whether the standing at a place is bad."""
        post, lineup = place
        return self.posts.is_marked(post) and not self.lineups.is_resting(lineup)

    def find_rounds(self):
        """The rounds of the game. They are computed when they are first needed, and then kept."""
        if self._rounds is None:
            self._rounds = Rounds(self.posts, self.lineups)
        return self._rounds


def game_size(pattern, lot, ahead, falls):
    """The size of a game: the product that limits it."""
    size = pattern.size
    for service in lot.services:
        size = size * (service.size + (1 if falls > 0 else 0))
    most = max([len(pattern.pairs_at(state)) for state in range(pattern.size)])
    for _ in range(ahead):
        size = size * (most + 1)
    return size
