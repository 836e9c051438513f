"""Which blocks may be stored to while nodes of a room are done, beside any partners."""

from ownharm.syntax import nodes_in


class Storing:
    """What the functions and the doors of one room may store to."""

    def __init__(self, source):
        self.of_functions = {}
        # A function runs those ahead of it, which are known by then.
        for function in source[3]:
            self.of_functions[function[0]] = self.without_doors(function[2])
        self.of_doors = {}
        for door in source[4]:
            self.of_doors.update(self.without_doors(door[3])[0])

    def without_doors(self, body):
        """The pair of a dict of the blocks that these nodes, and what they run, store to, and whether they ask."""
        blocks = {}
        asks = False
        for node in nodes_in(body):
            if node[0] == "store":
                blocks[node[1]] = True
            elif node[0] == "ask":
                asks = True
            elif node[0] == "run":
                more, also = self.of_functions[node[1]]
                blocks.update(more)
                asks = asks or also
        return (blocks, asks)

    def stored_by(self, body):
        """A dict of the blocks that may be stored to while these nodes are done."""
        found, asks = self.without_doors(body)
        # Behind an ask any door of the room may be called back.
        if asks:
            found.update(self.of_doors)
        return found
