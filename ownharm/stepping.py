"""One step of each kind: what it does to a room at work; the act that it comes to, or None."""

from ownharm.kinds import MODULUS


def undefined(frame, op):
    """The step is undefined: it is not done."""
    return ("undefined", frame.code.name, op[1])


def hold(frame, op, many, value):
    """Exchanges so many values that wait for one, and goes on."""
    held = frame.held
    del held[len(held) - many:]
    held.append(value)
    frame.position = op[2]


def do_number(work, frame, op):
    """A number is its own value."""
    hold(frame, op, 0, op[3])


def do_local(work, frame, op):
    """The value of a local, if it is set."""
    value = frame.slots[op[3]]
    if value is None:
        return undefined(frame, op)
    hold(frame, op, 0, value)
    return None


def do_cell(work, frame, op):
    """The value of a cell, if there is one and it is set."""
    block = work.memory[op[3]]
    index = frame.held[-1]
    if index >= len(block) or block[index] is None:
        return undefined(frame, op)
    hold(frame, op, 1, block[index])
    return None


def do_plus(work, frame, op):
    """The sum of the last two values that wait."""
    hold(frame, op, 2, (frame.held[-2] + frame.held[-1]) % MODULUS)


def do_minus(work, frame, op):
    """Their difference."""
    hold(frame, op, 2, (frame.held[-2] - frame.held[-1]) % MODULUS)


def do_times(work, frame, op):
    """Their product."""
    hold(frame, op, 2, (frame.held[-2] * frame.held[-1]) % MODULUS)


def do_rest(work, frame, op):
    """The remainder of the first by the second one, if that is not 0."""
    if frame.held[-1] == 0:
        return undefined(frame, op)
    hold(frame, op, 2, frame.held[-2] % frame.held[-1])
    return None


def do_less(work, frame, op):
    """1 if the first one is less, otherwise 0."""
    hold(frame, op, 2, 1 if frame.held[-2] < frame.held[-1] else 0)


def do_same(work, frame, op):
    """1 if both are equal, otherwise 0."""
    hold(frame, op, 2, 1 if frame.held[-2] == frame.held[-1] else 0)


def do_run(work, frame, op):
    """A running of a function begins; what it gives will be held."""
    behind = len(frame.held) - op[4]
    arguments = frame.held[behind:]
    del frame.held[behind:]
    frame.position = op[2]
    work.enter(op[3], arguments)


def do_ask(work, frame, op):
    """The running of the door waits for an answer, which will be held."""
    number = frame.held.pop()
    frame.position = op[2]
    work.wait()
    return ("calls", op[3], op[4], number)


def do_let(work, frame, op):
    """Sets a local."""
    frame.slots[op[3]] = frame.held.pop()
    frame.position = op[2]


def do_store(work, frame, op):
    """Sets a cell, if there is one."""
    block = work.memory[op[3]]
    index = frame.held[-2]
    if index >= len(block):
        return undefined(frame, op)
    block[index] = frame.held[-1]
    frame.held.clear()
    frame.position = op[2]
    return None


def do_test(work, frame, op):
    """Goes on where the test of an if or a while tells."""
    frame.position = op[2] if frame.held.pop() != 0 else op[3]


def do_give(work, frame, op):
    """The running gives the value that waits."""
    return work.leave(frame.held.pop())


def do_end(work, frame, op):
    """The end of the body gives 0."""
    return work.leave(0)


def do_stop(work, frame, op):
    """The room ends the run."""
    return ("ends",)


ACTIONS = {
    "number": do_number, "local": do_local, "cell": do_cell, "plus": do_plus, "minus": do_minus,
    "times": do_times, "rest": do_rest, "less": do_less, "same": do_same, "run": do_run, "ask": do_ask,
    "let": do_let, "store": do_store, "if": do_test, "while": do_test, "give": do_give, "end": do_end,
    "stop": do_stop,
}
