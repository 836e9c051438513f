"""A part of a room looked at once, node by node: what its laying must know ahead."""

# More registers than there are.
NEVER = 100


def params_of(part):
    """The tuple of the params of a function or a door."""
    if len(part) == 3:
        return part[1]
    return (part[1],)


class PartShape:
    """By the indices of the nodes: ends are the indices behind them and all that stands in them, needs how many
    registers it takes to work an expression out, NEVER or more if it runs or asks anything.

    names is the dict from the names of the locals, the params first and then the others by their first node, to
    their numbers.
    """

    def __init__(self, part):
        self.ends = []
        self.needs = []
        self.names = {name: at for at, name in enumerate(params_of(part))}
        self.take_body(part[-1])

    def take_body(self, body):
        """Takes the statements of a body."""
        for statement in body:
            at = len(self.ends)
            self.ends.append(0)
            self.needs.append(0)
            word = statement[0]
            if word == "let":
                self.names.setdefault(statement[1], len(self.names))
                self.take_value(statement[2])
            elif word == "store":
                self.take_value(statement[2])
                self.take_value(statement[3])
            elif word != "stop":
                self.take_value(statement[1])
                # An if has two bodies, a while one, a give none.
                for inner in statement[2:]:
                    self.take_body(inner)
            self.ends[at] = len(self.ends)

    def take_value(self, value):
        """Takes an expression; how many registers it needs."""
        at = len(self.ends)
        self.ends.append(at + 1)
        self.needs.append(1)
        word = value[0]
        if word == "number":
            return 1
        if word == "local":
            self.names.setdefault(value[1], len(self.names))
            return 1
        if word == "cell":
            need = self.take_value(value[2])
        elif word == "ask":
            self.take_value(value[3])
            need = NEVER
        elif word == "run":
            for argument in value[2]:
                self.take_value(argument)
            need = NEVER
        else:
            # The first operand waits in a register while the second one is worked out.
            need = max(self.take_value(value[1]), 1 + self.take_value(value[2]))
        self.needs[at] = need
        self.ends[at] = len(self.ends)
        return need


def local_names(part):
    """The list of the names of the locals of a part: its params, then the others by their first node."""
    return list(PartShape(part).names)
