"""The shortest play that comes to what is looked for, with at most so many levels.

A stage is all that plays do from one moment on, at which the partner has control, until the runnings that are open
there go on. It hangs on what is shared at its begin alone, so one stage serves for all moments that are alike.
"""

# How many items a turn has, but for a last one.
TURN = 2


class Found:
    """What a play in a stage comes to.

    kind is "free" where the partner has control and this running waits last (None: none of the stage is open),
    "ask" where it asks and the stage above it is still to be entered, "goal" at a goal. cost is how many items the
    play has, height how many runnings are open at once in it. ahead is the play ahead, None at the begin of the
    stage; behind that come either the items gained or a whole play of another stage, within. told is told of a goal.
    """

    def __init__(self, stage, kind, running, shared, cost, height):
        self.stage = stage
        self.kind = kind
        self.running = running
        self.shared = shared
        self.cost = cost
        self.height = height
        self.ahead = None
        self.gained = ()
        self.within = None
        self.told = None

    def play(self):
        """The list of the items."""
        items = []
        found = self
        while found is not None:
            items = (list(found.gained) if found.within is None else found.within.play()) + items
            found = found.ahead
        return items


class Stage:
    """since is with how many items the stage was first entered.

    offers are the lists of the pairs (cost, height) with which each moment has been offered, heights the least ones
    with which it has been looked at. over are the plays behind which no running of the stage is open, and those that
    come to a goal; askers are what plays of other stages had come to when they entered this one.
    """

    def __init__(self, since):
        self.since = since
        self.offers = {}
        self.heights = {}
        self.over = []
        self.askers = []

    def is_useless(self, moment, cost, height):
        """Whether the moment has been offered with no more cost and no more height."""
        for least, low in self.offers.get(moment, ()):
            if least <= cost and low <= height:
                return True
        return False


def items_left(moves, most):
    """The dict from what is shared to how many items a play needs at least from there to a goal, up to the most.

    Whatever waits is left out here: what leads from one moment to the next one may be the move of any running.
    """
    layers = [[] for _ in range(most + 1)]
    sources = {}
    for (_, shared), known in moves.items():
        for word, items, _, behind in known:
            if word == "goal":
                layers[len(items)].append(shared)
            else:
                sources.setdefault(behind, []).append(shared)
    left = {}
    for cost in range(most + 1):
        for shared in list(layers[cost]):
            if shared not in left:
                left[shared] = cost
                if cost + TURN <= most:
                    layers[cost + TURN].extend(sources.get(shared, []))
    return left


class PlaySearch:
    """Looks for the shortest play among those that a walk has met.

    left tells how many items are needed at least from what is shared to a goal; queue has, for each count of items
    that a play to a goal has at least, what is found of such plays.
    """

    def __init__(self, walk, levels, most):
        self.moves = walk.moves
        self.levels = levels
        self.left = items_left(walk.moves, most)
        self.queue = [[] for _ in range(most + 1)]
        self.stages = {}
        self.first = self.stage_from(walk.first, 0)

    def shortest(self):
        """What the shortest play comes to, None if it has more items than the most."""
        for items in range(len(self.queue)):
            at = 0
            # What is found may cost nothing more: the queue grows while it is gone through.
            while at < len(self.queue[items]):
                found = self.queue[items][at]
                at += 1
                if found.kind == "goal" and found.stage == self.first:
                    return found
                self.look_at(found)
        return None

    def stage_from(self, shared, since):
        """The stage that begins with this, entered now with so many items."""
        if shared not in self.stages:
            self.stages[shared] = Stage(since)
            self.offered(self.stages[shared], "free", None, shared, 0, 0)
        return self.stages[shared]

    def offered(self, stage, kind, running, shared, cost, height):
        """Puts what a play comes to into the queue and returns it; None if that is of no use."""
        if height > self.levels or (kind != "goal" and shared not in self.left):
            return None
        items = stage.since + cost + (0 if kind == "goal" else self.left[shared])
        if items >= len(self.queue):
            return None
        moment = (kind, running, shared)
        if stage.is_useless(moment, cost, height):
            return None
        # Whoever is free here, by a way no worse, has been in all stages above this ask already, or will be.
        if kind == "ask" and stage.is_useless(("free", running, shared), cost, height):
            return None
        stage.offers.setdefault(moment, []).append((cost, height))
        found = Found(stage, kind, running, shared, cost, height)
        self.queue[items].append(found)
        return found

    def look_at(self, found):
        """Goes on from what is found, if nothing as good has been found ahead of it."""
        stage = found.stage
        moment = (found.kind, found.running, found.shared)
        if stage.heights.get(moment, self.levels + 1) <= found.height:
            return
        stage.heights[moment] = found.height
        if found.kind == "ask":
            self.enter(found)
            return
        if found.running is None:
            stage.over.append(found)
            for asker in stage.askers:
                self.come_back(asker, found)
        for move in self.moves.get((found.running, found.shared), []):
            self.make(found, move)

    def make(self, found, move):
        """A move from what is found."""
        word, items, running, shared = move
        cost = found.cost + len(items)
        height = max(found.height, 1)
        if word == "goal":
            behind = self.offered(found.stage, "goal", None, None, cost, height)
        else:
            behind = self.offered(found.stage, "ask" if word == "calls" else "free", running, shared, cost, height)
        if behind is not None:
            behind.ahead = found
            behind.gained = items
            if word == "goal":
                behind.told = running

    def enter(self, found):
        """A running asks: the stage above it is entered."""
        stage = self.stage_from(found.shared, found.stage.since + found.cost)
        stage.askers.append(found)
        for over in list(stage.over):
            self.come_back(found, over)

    def come_back(self, asker, over):
        """A play of a stage entered is over: the play that entered it goes on, or is at a goal, too."""
        running = None if over.kind == "goal" else asker.running
        height = max(asker.height, 1 + over.height)
        behind = self.offered(asker.stage, over.kind, running, over.shared, asker.cost + over.cost, height)
        if behind is not None:
            behind.ahead = asker
            behind.within = over
            behind.told = over.told
