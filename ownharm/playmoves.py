"""The moves of plays: an event from the partner, and what it leads to.

A move is a tuple (word, items, running, shared): items are the items that the play gains. With the words "calls"
and "gives" the partner has control again: running is the one that waits then, None behind "gives", and shared is
what lies open to all runnings, both by their numbers. With the word "goal" the play has come to what is looked for,
and in the place of running stands what is told of it. Behind ("ends",) there is nothing, so it is no move.
"""

from math import lcm

from ownharm.kinds import ENDS, MODULUS
from ownharm.roomturns import MOST_CONTENTS, Ledger
from ownharm.wishes import state_behind


class HarmMoves:
    """The moves of one room; the goal is an undefined step, of which the place is told. Shared are the contents."""

    def __init__(self, turns):
        self.turns = turns

    def first_shared(self):
        """What is shared at first."""
        return 0

    def moves_of(self, running, shared):
        """The list of the moves while this running waits last; without one, of those that begin a new one."""
        found = []
        for head, modulus in self.turns.heads(running):
            for rest in range(modulus):
                act, waiting, memory = self.turns.turn(running, shared, head, rest)
                event = (*head, rest)
                if act[0] == "undefined":
                    found.append(("goal", (event,), (act[1], act[2]), None))
                elif act != ENDS:
                    found.append((act[0], (event, act), waiting, memory))
        return found


class WishMoves:
    """The moves of a harmless room while a wish reads the play; the goal is an item that breaks the wish.

    Shared are the contents and the state of the wish.
    """

    def __init__(self, turns, wish):
        self.turns = turns
        self.wish = wish
        self.pairs = Ledger(None)
        self.known = {}

    def first_shared(self):
        """What is shared at first."""
        return self.pairs.number_for((0, 0))

    def told_events(self, head, modulus, state):
        """The list of the events with this head that the room or the wish tells apart, each with the state behind."""
        key = (head, modulus, state)
        if key not in self.known:
            self.known[key] = self.split_events(head, modulus, state)
        return self.known[key]

    def split_events(self, head, modulus, state):
        """The same, worked out: the least number of each kind stands for all."""
        cuts = [0] + [rule[3] for rule in self.wish[1]] + [rule[4] + 1 for rule in self.wish[1]]
        cuts = sorted(set(cuts)) + [MODULUS]
        least = {}
        for begin, end in zip(cuts, cuts[1:]):
            # From one cut to the next one the wish does the same with all numbers.
            after = state_behind(self.wish, state, (*head, begin))
            for number in range(begin, min(end, begin + modulus)):
                least.setdefault((number % modulus, after), (*head, number))
        return [(event, after) for (_, after), event in least.items()]

    def moves_of(self, running, shared):
        """The list of the moves while this running waits last; without one, of those that begin a new one."""
        memory, state = self.pairs.things[shared]
        found = []
        for head, modulus in self.turns.heads(running):
            for event, behind in self.told_events(head, modulus, state):
                if behind is None:
                    found.append(("goal", (event,), None, None))
                else:
                    turn = self.turns.turn(running, memory, head, event[-1] % modulus)
                    found.extend(self.moves_behind(event, behind, turn))
        return found

    def moves_behind(self, event, state, turn):
        """The list of the one move that a turn is, or of none; the wish has read the event already."""
        act, waiting, memory = turn
        after = state_behind(self.wish, state, act)
        if after is None:
            return [("goal", (event, act), None, None)]
        if act == ENDS:
            return []
        return [(act[0], (event, act), waiting, self.pairs.number_for((memory, after)))]


class PairMoves:
    """The moves of two harmless rooms of one make beside the same partner, their plays being equal.

    The goal are unlike acts; that of the second room is told. Shared are the contents of both.
    """

    def __init__(self, turns, others):
        self.turns = turns
        self.others = others
        self.pairs = Ledger(MOST_CONTENTS)
        self.runnings = Ledger(None)

    def first_shared(self):
        """What is shared at first."""
        return self.pairs.number_for((0, 0))

    def moves_of(self, running, shared):
        """The list of the moves while these runnings wait last; without them, of those that begin new ones."""
        one, other = (None, None) if running is None else self.runnings.things[running]
        found = []
        for (head, modulus), (_, other_modulus) in zip(self.turns.heads(one), self.others.heads(other)):
            # So all pairs of rests that one number can have come, each of them once.
            for number in range(lcm(modulus, other_modulus)):
                memory, other_memory = self.pairs.things[shared]
                turn = self.turns.turn(one, memory, head, number % modulus)
                other_turn = self.others.turn(other, other_memory, head, number % other_modulus)
                found.extend(self.moves_behind((*head, number), turn, other_turn))
        return found

    def moves_behind(self, event, turn, other_turn):
        """The list of the one move that two turns behind an event are, or of none."""
        act, waiting, memory = turn
        other_act, other_waiting, other_memory = other_turn
        if act != other_act:
            return [("goal", (event, act), other_act, None)]
        if act == ENDS:
            return []
        both = None if waiting is None else self.runnings.number_for((waiting, other_waiting))
        return [(act[0], (event, act), both, self.pairs.number_for((memory, other_memory)))]
