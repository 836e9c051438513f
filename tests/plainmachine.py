"""The machine as the document tells it, written apart from the package: one function, one step after another."""


def plain_machine(board, number, steps):
    """The moments behind 0, 1, .. steps: (row, steps, state, at, registers, open asks, cells, handed)."""
    depth, wires, sections = board
    cells = [list(section[0]) for section in sections]
    r = [number] + [0] * 9
    row, asks, state, at, done = [("start", number)], [], "running", (0, sections[0][1][0]), 0
    handed = [(row[0], tuple(r))]
    moments = []
    while True:
        moments.append((list(row), done, state, at, tuple(r), list(asks), tuple(map(tuple, cells)), list(handed)))
        if done == steps or state != "running":
            return moments
        done += 1
        room, address = at
        own = cells[room]
        last = None
        at = (room, address + 1)
        if address >= len(own):
            last = ("end", room)
        else:
            a, b, c, d = (int(sign) for sign in f"{own[address]:04d}")
            x, y, z = r[b], r[c], r[d]
            if a == 0:
                last = ("end", room)
            elif a == 1:
                if address + 1 < len(own):
                    r[b] = own[address + 1]
                    at = (room, address + 2)
                else:
                    last = ("end", room)
            elif a == 2:
                if y >= len(own):
                    last = ("end", room)
                elif d < 5:
                    r[b] = own[y]
                else:
                    own[y] = x
            elif a == 3:
                r[b] = y % z if z else 0
            elif a in (4, 5, 6):
                r[b] = {4: y + z, 5: y - z, 6: y * z}[a] % 10000
            elif a == 7:
                r[b] = int(y < z)
            elif a == 8:
                if x:
                    at = (room, y)
            elif d < 5:
                if (x, y) not in wires[room]:
                    last = ("end", room)
                elif len(asks) == depth:
                    last = ("deep", room, x, y, r[0])
                else:
                    asks.append(at)
                    row.append(("call", room, x, y, r[0]))
                    at = (x, sections[x][1][y])
            elif not asks:
                last = ("done", r[0])
            else:
                at = asks.pop()
                row.append(("back", room, at[0], r[0]))
        if last is not None:
            row.append(last)
            state, at = last[0], None
        if len(row) > len(handed):
            handed.append((row[-1], tuple(r)))
