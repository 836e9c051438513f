"""How many items a play has at least, told without the runnings that wait: by their count and by what is shared alone.

A spot is a depth, which is how many runnings are open, and what is shared there. An "in" is possible at each depth
below the levels, a "got" at each but 0; here it may be a "got" of any running that ever waits beside what is shared.
So no play from one spot to another one has fewer items than are told here.
"""

from ownharm.levelwalk import bits_of

# How many items a turn has, but for a last one.
TURN = 2


class SpotMoves:
    """The moves from spot to spot in one direction; each field has, by what is shared, the mask of what it becomes.

    rising leads one depth up and falling one down; passing, where a running is begun and over, and staying, where
    one goes on, lead to the same depth.
    """

    def __init__(self):
        self.rising = {}
        self.passing = {}
        self.staying = {}
        self.falling = {}

    def go_on(self, masks, depth, levels, spots):
        """Adds to the masks, by depths, what the moves make of what is shared at the spots of a depth."""
        for shared in spots:
            if depth < levels:
                masks[depth + 1] |= self.rising.get(shared, 0)
                masks[depth] |= self.passing.get(shared, 0)
            if depth > 0:
                masks[depth] |= self.staying.get(shared, 0)
                masks[depth - 1] |= self.falling.get(shared, 0)


def add_move(field, shared, other):
    """Puts a move into a field of moves."""
    field[shared] = field.get(shared, 0) | (1 << other)


class SpotGraph:
    """All moves from spot to spot that a walk has met, in both directions.

    goals are the keys (items, whether a running begins there, what is shared ahead) of the moves to goals.
    """

    def __init__(self, moves):
        self.forwards = SpotMoves()
        self.backwards = SpotMoves()
        self.goals = {}
        for (running, shared), known in moves.items():
            for word, items, _, behind in known:
                if word == "goal":
                    self.goals[(len(items), running is None, shared)] = True
                else:
                    self.take(running is None, word == "calls", shared, behind)

    def take(self, begins, asks, shared, behind):
        """One move more: it begins a running or lets one go on, up to an ask or to its end."""
        forwards = self.forwards
        backwards = self.backwards
        if begins and asks:
            add_move(forwards.rising, shared, behind)
            add_move(backwards.falling, behind, shared)
        elif begins:
            add_move(forwards.passing, shared, behind)
            add_move(backwards.passing, behind, shared)
        elif asks:
            add_move(forwards.staying, shared, behind)
            add_move(backwards.staying, behind, shared)
        else:
            add_move(forwards.falling, shared, behind)
            add_move(backwards.rising, behind, shared)

    def goal_masks(self, items, levels):
        """The list, by depths, of the masks of what is shared ahead of the moves to goals with so many items."""
        masks = [0] * (levels + 1)
        for told, begins, shared in self.goals:
            if told == items:
                for depth in range(levels + 1):
                    if depth != (levels if begins else 0):
                        masks[depth] |= 1 << shared
        return masks


def costs_from(layers, moves, levels, most):
    """The list, by depths, of the dicts from what is shared to the least items of a way to there, up to the most.

    layers are the lists, by depths, of the masks of the spots at which ways begin: with no items, with one and so on.
    """
    costs = [{} for _ in range(levels + 1)]
    seen = [0] * (levels + 1)
    ahead = layers + [[0] * (levels + 1) for _ in range(TURN)]
    for cost in range(most + 1):
        if max([max(masks) for masks in ahead]) == 0:
            return costs
        masks = ahead[0]
        ahead = ahead[1:] + [[0] * (levels + 1)]
        for depth in range(levels + 1):
            fresh = masks[depth] & ~seen[depth]
            if fresh != 0:
                seen[depth] |= fresh
                spots = bits_of(fresh)
                moves.go_on(ahead[TURN - 1], depth, levels, spots)
                for shared in spots:
                    costs[depth][shared] = cost
    return costs


class PlayBounds:
    """How many items the plays to a goal have at least, with at most so many levels and items.

    graph has the moves from spot to spot, first is what is shared at the begin. By depths, start has the dicts from
    what is shared to how many items lead to there, left those to how many lead from there to a goal.
    """

    def __init__(self, graph, first, levels, most):
        self.first = first
        # A running that is open at the end has had two items at least, the last one maybe one.
        self.levels = min(levels, (most + 1) // TURN)
        self.most = most
        begins = [0] * (self.levels + 1)
        begins[0] = 1 << first
        goals = [graph.goal_masks(items, self.levels) for items in range(TURN + 1)]
        self.start = costs_from([begins], graph.forwards, self.levels, most)
        self.left = costs_from(goals, graph.backwards, self.levels, most)
        self.known = {}

    def bounds_behind(self, shared):
        """The list, by depths, of how many items lead from there to a goal, more than the most if none do."""
        return [left.get(shared, self.most + 1) for left in self.left]

    def bounds_around(self, since, own, shared):
        """The list, by heights, of how many items stand at least around a trail of this height in a play to a goal.

        It begins at one thing shared and comes to another one, own runnings of it being open there.
        """
        key = (since, own, shared)
        if key not in self.known:
            least = self.most + 1
            found = []
            # The fewer runnings are open below it, the higher the trail may be.
            for depth in range(self.levels + 1 - own):
                ahead = self.start[depth].get(since)
                behind = self.left[depth + own].get(shared)
                if ahead is not None and behind is not None:
                    least = min(least, ahead + behind)
                found.append(least)
            self.known[key] = [self.most + 1] * own + found[::-1]
        return self.known[key]
