"""Runnings that wait and lead to the same, whatever is shared: plays are looked for with one of each kind."""


class RunningKinds:
    """The moves that a walk has met, in short, with one running in the place of all that are of a kind.

    one_of has for each running the first one of its kind, known the moves in short by what waits and is shared: the
    tuples (word, how many items, the running that waits then, what is shared then), the items left out.
    """

    def __init__(self, moves):
        self.moves = moves
        self.one_of = {}
        self.known = {}
        spots = {}
        for running, shared in moves:
            if running is not None:
                spots.setdefault(running, []).append(shared)
        shapes = {}
        for running in later_first(moves, spots):
            shape = [(shared, self.moves_from(running, shared)) for shared in sorted(spots[running])]
            self.one_of[running] = shapes.setdefault(tuple(shape), running)

    def moves_from(self, running, shared):
        """The tuple of the moves in short while a running waits last; without one, of those that begin a new one."""
        key = (running, shared)
        if key not in self.known:
            short = {self.in_short(move): True for move in self.moves.get(key, [])}
            self.known[key] = tuple(sorted(list(short)))
        return self.known[key]

    def in_short(self, move):
        """A move in short; no running is told as -1, and of a goal nothing is."""
        word, items, running, shared = move
        if word == "goal":
            return (word, len(items), -1, -1)
        return (word, len(items), -1 if running is None else self.one_of.get(running, running), shared)

    def play(self, first, steps):
        """The pair of the items of a play and of what is told of its goal.

        The steps are pairs: whether a running begins, and a move in short. first is what is shared at the begin.
        """
        items = []
        waiting = []
        shared = first
        told = None
        for begins, short in steps:
            running = None if begins else waiting.pop()
            move = [one for one in self.moves[(running, shared)] if self.in_short(one) == short][0]
            items.extend(move[1])
            told = move[2]
            shared = move[3]
            if move[0] == "calls":
                waiting.append(move[2])
        return (items, told)


def later_first(moves, spots):
    """The list of the runnings, those to which moves lead ahead of those from which they come.

    Runnings from which moves lead back to themselves are left out, and those from which moves lead there; spots has
    the lists of what is shared beside them.
    """
    ahead = {running: {} for running in spots}
    behind = {running: {} for running in spots}
    for running in spots:
        for shared in spots[running]:
            for word, _, after, _ in moves[(running, shared)]:
                if word == "calls" and after in spots:
                    behind[running][after] = True
                    ahead[after][running] = True
    left = {running: len(behind[running]) for running in spots}
    found = [running for running in spots if left[running] == 0]
    # What is found grows while it is gone through.
    at = 0
    while at < len(found):
        last = found[at]
        for running in ahead[last]:
            left[running] -= 1
            if left[running] == 0:
                found.append(running)
        at += 1
    return found
