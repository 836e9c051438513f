"""Which locals of a running can still matter: those that may be read before they are set anew."""

# Behind these steps the running does nothing more.
LAST = ("give", "end", "stop")


def live_locals(code):
    """The list, by the steps of a part, of the masks of the locals that may be read from there on as they are."""
    ops = code.ops
    live = [0] * len(ops)
    is_new = True
    # What a while leads back to is known only once what is behind it has been looked at.
    while is_new:
        is_new = False
        for index in range(len(ops) - 1, -1, -1):
            word, _, behind, one, _ = ops[index]
            mask = 0 if word in LAST else live[behind]
            if word == "test":
                mask |= live[one]
            elif word == "local":
                mask |= 1 << one
            elif word == "let":
                mask &= ~(1 << one)
            if mask != live[index]:
                live[index] = mask
                is_new = True
    return live


def without_dead(frame, live):
    """A running of a part, as it waits, without the locals that are not live where it goes on."""
    name, position, slots, held = frame
    mask = live[position]
    return (name, position, tuple([slot if mask & (1 << at) else None for at, slot in enumerate(slots)]), held)
