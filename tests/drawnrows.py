"""Faces and rows drawn from a seed, written apart from the package."""


def draw_face(rng, rooms=None, depth=None):
    rooms = rooms or rng.randint(1, 6)
    doors = tuple(rng.randint(1, 6) for _ in range(rooms))
    wires = []
    for room in range(rooms):
        pairs = [(other, door) for other in range(rooms) if other != room for door in range(doors[other])]
        wires.append(tuple(rng.sample(pairs, min(len(pairs), rng.randint(1, 8)))))
    return (depth or rng.choice([1, 2, 3, 60]), tuple(wires), doors)


def draw_row(rng, face, most, asking=0.6):
    """A row that fits the face, with at most so many crossings."""
    depth, wires, _ = face
    row, askers, control = [("start", rng.randrange(10000))], [], 0
    while len(row) < most:
        number = rng.choice([0, 1, 7, 9999, rng.randrange(10000)])
        if rng.random() < 0.02:
            return row + [("end", control)]
        if wires[control] and rng.random() < asking:
            to, door = rng.choice(wires[control])
            if len(askers) == depth:
                if rng.random() < 0.3:
                    return row + [("deep", control, to, door, number)]
                continue
            row.append(("call", control, to, door, number))
            askers.append(control)
            control = to
        elif askers:
            asker = askers.pop()
            row.append(("back", control, asker, number))
            control = asker
        elif rng.random() < 0.3 or not wires[control]:
            return row + [("done", number)]
    return row


def draw_views(rng, face, most, asking=0.6):
    """The row drawn, and its views as the document tells them."""
    row = draw_row(rng, face, most, asking)
    return row, views_in(row, len(face[2]))


def views_in(row, rooms):
    views = [[] for _ in range(rooms)]
    for crossing in row:
        word, told = crossing[0], crossing[1:]
        if word == "start":
            views[0].append(("in", 0, told[0]))
        elif word == "call":
            views[told[0]].append(("calls", told[1], told[2], told[3]))
            views[told[1]].append(("in", told[2], told[3]))
        elif word == "back":
            views[told[0]].append(("gives", told[2]))
            views[told[1]].append(("got", told[2]))
        elif word == "deep":
            views[told[0]].append(("calls", told[1], told[2], told[3]))
        elif word == "done":
            views[0].append(("gives", told[0]))
        else:
            views[told[0]].append(("ends",))
    return views
