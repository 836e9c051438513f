"""Small rooms beside all partners by a plain walk, written from the document alone and apart from the package.

A room's step is done on frozen values: a running that waits is a tuple, so that all plays can be walked, breadth
first, over whole configurations (contents, runnings that wait), whatever many there are.
"""

from plainrun import numbered


class Big(Exception):
    """There are too many configurations for a plain walk."""


class PlainTurns:
    def __init__(self, small):
        self.small = small
        self.doors = [door for _, door in small[1]]
        self.blocks = [block[0] for block in small[2]]
        self.first = tuple(block[1] for block in small[2])
        self.nodes = {}
        self.parts = {}
        for part in small[3] + small[4]:
            body, count = numbered(part[-1])
            self.parts[part[0]] = (part, [node[0] for node in body], count)
            self.enter(part[0], body)
        self.known = {}

    def enter(self, part, nodes):
        for node in nodes:
            self.nodes[(part, node[0])] = node
            for inner in node[2:]:
                if isinstance(inner, list):
                    self.enter(part, [inner] if self.is_node(inner) else inner)

    def turn(self, contents, waiting, event):
        """(act, contents, running that waits or None); of ("undefined", part, at) and None the act alone counts."""
        key = (contents, waiting, event)
        if key not in self.known:
            if event[0] == "in":
                name, param, size, _ = self.small[4][event[1]]
                todo, values, known = self.begun(name), [], {param: event[2] % size}
            else:
                todo, values, known = list(waiting[0]), list(waiting[1]) + [event[1]], dict(waiting[2])
            self.known[key] = self.done(contents, todo, values, known)
        return self.known[key]

    def begun(self, name):
        _, ats, count = self.parts[name]
        return [("end", name, count)] + self.body(name, ats)

    def body(self, name, ats):
        return [("go", name, at) for at in reversed(ats)]

    def done(self, contents, todo, values, known):
        cells = [list(block) for block in contents]
        tries = 0
        while True:
            kind, part, at = todo.pop()
            if kind == "go":
                node = self.nodes[(part, at)]
                operands = node[3] if node[1] == "run" else [one for one in node[2:] if self.is_node(one)]
                todo.append(("do", part, at))
                todo.extend(("go", part, one[0]) for one in reversed(operands))
                continue
            tries += 1
            if tries > 2000:
                return None, None, None
            if kind == "end":
                known, over = self.left(todo, values, known, 0)
                if over:
                    return ("gives", 0), self.frozen(cells), None
                continue
            told = self.step(part, at, cells, todo, values, known)
            if told == "undefined":
                return ("undefined", part, at), None, None
            if told == "ends":
                return ("ends",), None, None
            if told == "give":
                number = values.pop()
                known, over = self.left(todo, values, known, number)
                if over:
                    return ("gives", number), self.frozen(cells), None
            elif told == "run":
                name, arguments = values.pop()
                todo.append(("back", tuple(sorted(known.items())), None))
                todo.extend(self.begun(name))
                known = dict(zip(self.parts[name][0][1], arguments))
            elif told == "ask":
                number = values.pop()
                act = ("calls", 0, self.doors.index(self.nodes[(part, at)][3]), number)
                return act, self.frozen(cells), (tuple(todo), tuple(values), tuple(sorted(known.items())))

    @staticmethod
    def is_node(one):
        return isinstance(one, list) and len(one) > 1 and isinstance(one[0], int)

    @staticmethod
    def frozen(cells):
        return tuple(tuple(block) for block in cells)

    @staticmethod
    def left(todo, values, known, number):
        """The locals of whoever goes on behind the running of a part; whether it was that of the door."""
        while todo:
            kind, told, _ = todo.pop()
            if kind == "back":
                values.append(number)
                return dict(told), False
        return known, True

    def step(self, part, at, cells, todo, values, known):
        node = self.nodes[(part, at)]
        word = node[1]
        if word == "number":
            values.append(node[2])
        elif word == "local":
            if node[2] not in known:
                return "undefined"
            values.append(known[node[2]])
        elif word == "cell":
            block, index = cells[self.blocks.index(node[2])], values.pop()
            if index >= len(block) or block[index] is None:
                return "undefined"
            values.append(block[index])
        elif word == "let":
            known[node[2]] = values.pop()
        elif word == "store":
            value, index = values.pop(), values.pop()
            block = cells[self.blocks.index(node[2])]
            if index >= len(block):
                return "undefined"
            block[index] = value
        elif word == "if":
            chosen = node[3] if values.pop() != 0 else node[4]
            todo.extend(self.body(part, [one[0] for one in chosen]))
        elif word == "while":
            if values.pop() != 0:
                todo.append(("go", part, at))
                todo.extend(self.body(part, [one[0] for one in node[3]]))
        elif word == "give":
            return "give"
        elif word == "stop":
            return "ends"
        elif word == "ask":
            return "ask"
        elif word == "run":
            many = len(node[3])
            arguments = values[len(values) - many:]
            del values[len(values) - many:]
            values.append((node[2], arguments))
            return "run"
        else:
            other, one = values.pop(), values.pop()
            if word == "rest" and other == 0:
                return "undefined"
            values.append({"plus": (one + other) % 10000, "minus": (one - other) % 10000, "times": one * other % 10000,
                           "rest": one % (other or 1), "less": int(one < other), "same": int(one == other)}[word])
        return None

    def events(self, waits, levels, numbers):
        """The events that can come; numbers is how many of them stand for all."""
        found = []
        if len(waits) < levels:
            found += [("in", door, number) for door in range(len(self.small[4])) for number in numbers]
        if waits:
            found += [("got", number) for number in numbers]
        return found


def behind(waits, event, waiting):
    """The runnings that wait behind a turn."""
    if event[0] == "got":
        waits = waits[:-1]
    return waits if waiting is None else waits + (waiting,)


def plain_walk(small, levels, most=20000):
    """(contents, items of the shortest harm or None, its places), or "long" if a turn takes too many steps."""
    turns = PlainTurns(small)
    seen, border = {(turns.first, ())}, [(turns.first, ())]
    contents, harm, places = {turns.first}, None, set()
    done = 0
    while border:
        fresh = []
        for cells, waits in border:
            for event in turns.events(waits, levels, range(6)):
                act, now, waiting = turns.turn(cells, waits[-1] if waits and event[0] == "got" else None, event)
                if act is None:
                    return "long"
                if act[0] == "undefined":
                    harm = 2 * done + 1 if harm is None else harm
                    if harm == 2 * done + 1:
                        places.add(act[1:])
                elif act[0] != "ends":
                    contents.add(now)
                    moment = (now, behind(waits, event, waiting))
                    if moment not in seen:
                        seen.add(moment)
                        fresh.append(moment)
                        if len(seen) > most:
                            raise Big()
        border = fresh
        done += 1
    return contents, harm, places


def read_on(wish, state, item):
    """The state of a wish behind an item, None if it is broken."""
    word = item[0]
    door = {"in": lambda: item[1], "calls": lambda: item[2]}.get(word, lambda: None)()
    number = item[-1] if len(item) > 1 else 0
    for rule in wish[1]:
        if rule[0] == state and rule[1] == word and rule[2] in (None, door) and rule[3] <= number <= rule[4]:
            return rule[5]
    return state


def plain_breaking(small, wish, levels, numbers, most=20000):
    """How many items the shortest play has that breaks the wish, None if there is none; the room must be harmless."""
    turns = PlainTurns(small)
    seen, border = {(turns.first, (), 0)}, [(turns.first, (), 0)]
    done = 0
    while border:
        fresh = []
        found = set()
        for cells, waits, state in border:
            for event in turns.events(waits, levels, numbers):
                after = read_on(wish, state, event)
                if after is None:
                    found.add(2 * done + 1)
                    continue
                act, now, waiting = turns.turn(cells, waits[-1] if waits and event[0] == "got" else None, event)
                after = read_on(wish, after, act)
                if after is None:
                    found.add(2 * done + 2)
                elif act[0] != "ends":
                    moment = (now, behind(waits, event, waiting), after)
                    if moment not in seen:
                        seen.add(moment)
                        fresh.append(moment)
                        if len(seen) > most:
                            raise Big()
        if found:
            return min(found)
        border = fresh
        done += 1
    return None


def plain_parting(one, other, levels, most=20000):
    """How many items the shortest plays have that part two harmless rooms, None if there are none; the pairs met.

    No size and no rest of the rooms may be above 3: then the numbers 0 to 5 stand for all.
    """
    turns, others = PlainTurns(one), PlainTurns(other)
    begin = (turns.first, (), others.first, ())
    seen, border, pairs = {begin}, [begin], {(turns.first, others.first)}
    done, parts = 0, None
    while border:
        fresh = []
        for cells, waits, other_cells, other_waits in border:
            for event in turns.events(waits, levels, range(6)):
                last = event[0] == "got"
                act, now, waiting = turns.turn(cells, waits[-1] if last else None, event)
                told, other_now, other_waiting = others.turn(other_cells, other_waits[-1] if last else None, event)
                if act != told:
                    parts = 2 * done + 2 if parts is None else parts
                elif act[0] != "ends":
                    pairs.add((now, other_now))
                    moment = (now, behind(waits, event, waiting), other_now, behind(other_waits, event, other_waiting))
                    if moment not in seen:
                        seen.add(moment)
                        fresh.append(moment)
                        if len(seen) > most:
                            raise Big()
        border = fresh
        done += 1
    return parts, pairs
