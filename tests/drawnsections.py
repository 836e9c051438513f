"""Sections and boards drawn from a seed: some of any numbers, some of pieces that cross often."""

WORDS = [0, 1, 2, 3, 5, 9, 77, 9999]


def noise(rng):
    """Sets that leave other numbers in all registers but r0."""
    cells = []
    for register in range(1, 10):
        cells += [1000 + 100 * register + rng.randrange(100), rng.choice([rng.randrange(10000), rng.randrange(50)])]
    return cells


def piece(rng, wires, known):
    """Some cells that often do something of use; known are addresses where pieces begin."""
    kind = rng.randrange(-4, 14)
    if kind < 4 and wires:
        room, door = rng.choice(wires)
        ahead = noise(rng) if rng.random() < 0.5 else []
        return ahead + [1100, room, 1200, door, 9120 + rng.randrange(5)]
    if kind < 6:
        return (noise(rng) if rng.random() < 0.5 else []) + [9005 + 10 * rng.randrange(100) + rng.randrange(5)]
    if kind < 7:
        return [1000 + 100 * rng.randrange(10) + rng.randrange(100), rng.choice(WORDS)]
    if kind < 8:
        return [rng.randint(3, 7) * 1000 + rng.randrange(1000)]
    if kind < 9:
        return [1300, rng.randrange(60), 2030 + rng.choice([0, 5]) + 100 * rng.randrange(10)]
    if kind < 10:
        return [1500, rng.choice(known), 8050 + 100 * rng.randrange(10)]
    if kind < 12:
        return [4000 + rng.randrange(10)]
    if kind < 13:
        return [rng.randrange(10000)]
    return [rng.randrange(1000)] if rng.random() < 0.3 else [4111]


def draw_section(rng, wires, doors):
    """A section with so many entries, for a room with these wires."""
    if rng.random() < 0.1:
        many = rng.choice([1, 5, 100])
        return (tuple(rng.randrange(10000) for _ in range(many)), tuple(rng.randrange(many + 2) for _ in range(doors)))
    cells, known = [], [0]
    for _ in range(rng.choice([3, 10, 30])):
        cells += piece(rng, wires, known)
        known.append(len(cells))
    if rng.random() < 0.7:
        cells += [1500, 0, 1601, 1, 8650]
    return (tuple(cells), tuple(rng.choice(known) for _ in range(doors)))


def draw_board(rng):
    """A board with sections that are all drawn."""
    many = rng.randint(1, 5)
    doors = [rng.randint(1, 4) for _ in range(many)]
    wires = []
    for room in range(many):
        pairs = [(other, door) for other in range(many) if other != room for door in range(doors[other])]
        wires.append(tuple(rng.sample(pairs, min(len(pairs), rng.randrange(6)))))
    sections = [draw_section(rng, wires[room], doors[room]) for room in range(many)]
    return (rng.choice([1, 2, 3, 60]), tuple(wires), tuple(sections))
