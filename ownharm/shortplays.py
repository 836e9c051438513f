"""The shortest play that comes to what is looked for, with at most so many levels.

A play to a goal is a row of moves; wherever the partner has control, whole runnings may come between, from an "in"
to a "gives". What a whole running does hangs on what is shared at its begin alone, so it is looked for once for all
moments that are alike there, and once it is found it serves in the place of a move, also in other runnings.
"""

from ownharm.playbounds import PlayBounds, SpotGraph
from ownharm.playkinds import RunningKinds

# One behind another it is looked for plays with a part of the most items, at last with all of them.
NEARER = (25, 5, 1)


class Trail:
    """What comes from a begin on, up to a moment at which the partner has control, or to a goal.

    since is what is shared where a running begins that is open all along; then height is how many runnings are open
    at once in the trail. Where since is None it is the trail of the whole play; then height is how many are open at
    its end. running is the one that waits last at the end, None if none of the trail is open. cost is how many items
    the trail has. ahead is the trail that it prolongs, None if there is none; behind that comes either a step, as
    RunningKinds has them, or another whole running, within.
    """

    def __init__(self, since, running, shared, cost, height):
        self.since = since
        self.running = running
        self.shared = shared
        self.cost = cost
        self.height = height
        self.ahead = None
        self.step = None
        self.within = None

    def way(self):
        """The list of the steps."""
        pieces = []
        trail = self
        while trail is not None:
            if trail.step is not None:
                pieces.append([trail.step])
            elif trail.within is not None:
                pieces.append(trail.within.way())
            trail = trail.ahead
        return [step for piece in pieces[::-1] for step in piece]


class Ends:
    """What is known of all trails with the same begin and end.

    bounds has, by their heights, how many items stand at least around them in a play to a goal; offers are the pairs
    of the costs and heights with which there are such trails.
    """

    def __init__(self, bounds):
        self.bounds = bounds
        self.offers = []

    def is_useless(self, cost, height):
        """Whether there is a trail as good as one with this cost and height."""
        for least, low in self.offers:
            if least <= cost and low <= height:
                return True
        return False

    def is_outdone(self, cost, height):
        """Whether there is a better trail than one with this cost and height."""
        for least, low in self.offers:
            if least <= cost and low <= height and (least < cost or low < height):
                return True
        return False


class PlaySearch:
    """Looks for the shortest play to a goal, with no more levels and items than the bounds tell.

    queue has the trails to be looked at, by how many items a play with them has at least and then by height; now is
    the place of the first ones. ends has what is known of trails by their begins, the runnings that wait at their
    ends and what is shared there; begun tells where runnings have been begun. By what is shared at the end, waiting
    has the trails looked at that go on, spans those of which no running is open; by what is shared at the begin,
    closed has the whole runnings.
    """

    def __init__(self, kinds, bounds):
        self.kinds = kinds
        self.bounds = bounds
        self.levels = bounds.levels
        self.most = bounds.most
        self.queue = [[] for _ in range((self.most + 1) * (self.levels + 1))]
        self.now = 0
        self.ends = {}
        self.begun = {}
        self.waiting = {}
        self.spans = {}
        self.closed = {}

    def shortest(self):
        """The pair of the shortest play to a goal and what is told of that, None if it has more items than the most."""
        self.offered(None, None, self.bounds.first, 0, 0)
        while self.now < len(self.queue):
            if self.queue[self.now]:
                trail = self.queue[self.now].pop()
                # A goal alone has nothing shared.
                if trail.shared is None:
                    return self.kinds.play(self.bounds.first, trail.way())
                self.look_at(trail)
            else:
                self.now += 1
        return None

    def put(self, trail, items, height):
        """Puts a trail into the queue; a play with it has at least so many items."""
        place = items * (self.levels + 1) + height
        self.queue[place].append(trail)
        self.now = min(self.now, place)

    def offered(self, since, running, shared, cost, height):
        """Puts a trail with these ends into the queue and returns it; None if it is of no use."""
        if height > self.levels:
            return None
        key = (since, running, shared)
        ends = self.ends.get(key)
        if ends is None:
            if since is None:
                ends = Ends(self.bounds.bounds_behind(shared))
            else:
                ends = Ends(self.bounds.bounds_around(since, 0 if running is None else 1, shared))
            self.ends[key] = ends
        items = cost + ends.bounds[height]
        if items > self.most or ends.is_useless(cost, height):
            return None
        ends.offers.append((cost, height))
        trail = Trail(since, running, shared, cost, height)
        self.put(trail, items, height)
        return trail

    def look_at(self, trail):
        """Goes on from a trail, if no better one has come behind it."""
        if self.ends[(trail.since, trail.running, trail.shared)].is_outdone(trail.cost, trail.height):
            return
        if trail.since is None or trail.running is not None:
            self.go_on(trail)
            return
        if trail.step is not None:
            self.closed.setdefault(trail.since, []).append(trail)
            for ahead in self.waiting.get(trail.since, []):
                self.go_past(ahead, trail)
            for ahead in self.spans.get(trail.since, []):
                self.join(ahead, trail)
        # With one level nothing runs within a running, and no span is of use.
        if self.levels > 1:
            self.spans.setdefault(trail.shared, []).append(trail)
            for whole in self.closed.get(trail.shared, []):
                self.join(trail, whole)

    def go_on(self, trail):
        """Goes on from a trail at whose end the partner has control."""
        shared = trail.shared
        self.waiting.setdefault(shared, []).append(trail)
        for whole in self.closed.get(shared, []):
            self.go_past(trail, whole)
        above = 2
        if trail.since is None:
            above = trail.height + 1
            for move in self.kinds.moves_from(None, shared):
                self.make(trail, True, move, above)
        if above <= self.levels and shared not in self.begun:
            self.begin_at(shared)
        if trail.running is not None:
            for move in self.kinds.moves_from(trail.running, shared):
                self.make(trail, False, move, trail.height)

    def begin_at(self, shared):
        """Runnings may begin here."""
        self.begun[shared] = True
        for move in self.kinds.moves_from(None, shared):
            word, many, running, behind = move
            # What comes to nothing new is of no use.
            if word == "calls" or (word == "gives" and behind != shared):
                trail = self.offered(shared, running if word == "calls" else None, behind, many, 1)
                if trail is not None:
                    trail.step = (True, move)

    def make(self, trail, begins, move, height):
        """A move from the end of a trail, which begins a running or lets one go on; behind it that has this height."""
        word, many, running, shared = move
        if word == "goal":
            if trail.since is None and height <= self.levels and trail.cost + many <= self.most:
                goal = Trail(None, None, None, trail.cost + many, height)
                goal.ahead = trail
                goal.step = (begins, move)
                self.put(goal, goal.cost, 0)
            return
        # A whole running, or the end of one that is open in the trail of the whole play, is not told by a move.
        if word == "gives" and (trail.since is None or shared == trail.since):
            return
        longer = self.offered(trail.since, running if word == "calls" else None, shared, trail.cost + many, height)
        if longer is not None:
            longer.ahead = trail
            longer.step = (begins, move)

    def go_past(self, trail, whole):
        """A whole running comes at the end of a trail."""
        height = max(trail.height, 1 + whole.height)
        if trail.since is None:
            height = trail.height
            if height + whole.height > self.levels:
                return
        longer = self.offered(trail.since, trail.running, whole.shared, trail.cost + whole.cost, height)
        if longer is not None:
            longer.ahead = trail
            longer.within = whole

    def join(self, span, whole):
        """A whole running comes behind others, none of which is open."""
        if whole.shared != span.since:
            self.offered(span.since, None, whole.shared, span.cost + whole.cost, max(span.height, whole.height))


def shortest_play(walk, levels, most):
    """The pair of the shortest play to a goal among those that a walk has met, with at most so many levels, and what
    is told of the goal; None if it has more items than the most."""
    kinds = RunningKinds(walk.moves)
    graph = SpotGraph(walk.moves)
    # Most goals are near: there it is not looked far.
    for part in NEARER:
        found = PlaySearch(kinds, PlayBounds(graph, walk.first, levels, most // part)).shortest()
        if found is not None:
            return found
    return None
