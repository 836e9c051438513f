"""All that plays of any length come to, level by level.

What lies open to all runnings is told by a number, and what is reached of it by a mask: the whole with these bits.
"""


def bits_of(mask):
    """The list of the numbers that a mask has."""
    found = []
    while mask > 0:
        low = mask & -mask
        found.append(low.bit_length() - 1)
        mask -= low
    return found


class LevelSpan:
    """What is reached from one moment on, with so many levels more, until the runnings open there go on.

    ends is the mask of what is shared when no running more is open, entered that of what is shared where a running
    above asks, and for each running opened tells the mask of what is shared while it waits last. around is a span
    with as many levels in which this begin is one of the ends, or None.
    """

    def __init__(self, walk, budget, around):
        self.walk = walk
        self.budget = budget
        self.around = around
        self.ends = 0
        self.entered = 0
        self.opened = {}
        self.todo = []

    def spread(self, shared):
        """Looks at all that is reached from here on."""
        self.come_to(1 << shared)
        while self.todo:
            running, now = self.todo.pop()
            gives, asks = self.walk.steps_at(running, now)
            if gives & ~self.ends != 0:
                self.come_to(gives & ~self.ends)
            for asking, told in asks:
                if self.opened.get(asking, 0) & (1 << told) == 0:
                    self.ask(asking, told)
            # All that is reached from here has been looked at there, and there is nothing more to come to.
            if self.around is not None and self.ends == self.around.ends:
                self.entered = self.around.entered
                return

    def come_to(self, mask):
        """No running more is open: others may begin."""
        self.ends |= mask
        for shared in bits_of(mask):
            known = self.walk.known_span(self.budget, shared)
            if known is None:
                self.todo.append((None, shared))
            else:
                self.ends |= known.ends
                self.entered |= known.entered

    def ask(self, running, shared):
        """A running asks; ahead of the answer others may run above it."""
        self.entered |= 1 << shared
        opened = self.opened.get(running, 0)
        reached = self.walk.reached(self.budget - 1, shared)
        self.opened[running] = opened | reached
        for now in bits_of(reached & ~opened):
            self.todo.append((running, now))


class LevelWalk:
    """Walks all plays with one level, with two, and so on; moves tells what it has met, has_goal whether a goal was.

    short_moves has the moves in short, as pairs: the mask of what is shared behind the gives, the list of what waits
    and is shared at the asks. By the count of the levels that are left, spans has dicts from what is shared at the
    begin to what is reached, arounds from each end to a span that comes to it. settled has what is shared at a begin
    from which more levels reach no more, and with how many levels this is so.
    """

    def __init__(self, game):
        self.game = game
        self.first = game.first_shared()
        self.moves = {}
        self.short_moves = {}
        self.has_goal = False
        self.spans = [{}]
        self.arounds = [{}]
        self.settled = {}

    def steps_at(self, running, shared):
        """The moves from here in short."""
        key = (running, shared)
        if key not in self.moves:
            self.moves[key] = self.game.moves_of(running, shared)
            self.short_moves[key] = self.shortened(self.moves[key])
        return self.short_moves[key]

    def shortened(self, moves):
        """Some moves in short."""
        gives = 0
        asks = {}
        for word, _, running, shared in moves:
            if word == "goal":
                self.has_goal = True
            elif word == "gives":
                gives |= 1 << shared
            else:
                asks[(running, shared)] = True
        return (gives, list(asks))

    def add_level(self):
        """Walks all plays with one level more."""
        self.spans.append({})
        self.arounds.append({})
        self.reached(len(self.spans) - 1, self.first)
        for budget in range(1, len(self.spans)):
            self.settle(budget)

    def reached(self, budget, shared):
        """The mask of what is reached with so many levels more when no running more is open."""
        if budget == 0:
            return 1 << shared
        span = self.known_span(budget, shared)
        if span is None:
            span = LevelSpan(self, budget, self.arounds[budget].get(shared))
            span.spread(shared)
            self.spans[budget][shared] = span
            for end in bits_of(span.ends):
                self.arounds[budget][end] = span
        return span.ends

    def known_span(self, budget, shared):
        """What has been looked at from here on with so many levels more, None if that has not been done."""
        enough = min(budget, self.settled.get(shared, budget))
        return self.spans[enough].get(shared)

    def settle(self, budget):
        """If this level has brought nothing more anywhere in a closed circle, no further one will."""
        spans = self.spans[budget]
        fresh = [shared for shared in spans if self.settled.get(shared, budget) == budget]
        if any([spans[shared].ends != self.ends_below(budget, shared) for shared in fresh]):
            return
        circle = 0
        for shared in fresh + [shared for shared in self.settled if self.settled[shared] < budget]:
            circle |= 1 << shared
        if all([spans[shared].entered & ~circle == 0 for shared in fresh]):
            for shared in fresh:
                self.settled[shared] = budget

    def ends_below(self, budget, shared):
        """What is reached with one level less, None if that has not been looked at."""
        if budget == 1:
            return 1 << shared
        below = self.spans[budget - 1]
        return below[shared].ends if shared in below else None
