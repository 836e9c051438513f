"""A program of four rooms that meet often and do undefined steps, a row of it, and a tree of some hundred nodes."""

from ownharm.roomtexts import program_of
from ownharm.rowtexts import row_of

TEXT = """depth 2
room gate
  uses main.d2 a.get
  block b 9998
  function help m n
    w = ((40 - b[m]) * (9 + b[1]))
    give b[((n rest 4) rest 1)]
  door go p 10000
    i0 = 0
    while (i0 < 3)
      b[0] = main.d2(0)
      i0 = (i0 + 1)
    x = p
    b[(5 rest 1)] = 1
    if (0 < p)
      b[0] = a.get((p - 1))
    give b[6]
room yard
  uses main.d2 a.put
  block b 3
  function help
    b[0] = (9310 - b[0])
    k = 1
    a = (40 = (2 * b[0]))
    i0 = 0
    while (i0 < 1)
      if (4 rest k)
        w = b[0]
        b[0] = 826
      i0 = (i0 + 1)
    give (k + 0)
  door ring p 3
    b[0] = help()
    if (0 < p)
      b[0] = a.put((p - 1))
    w = a.put(help())
    a = w
    give b[w]
room a
  uses main.x yard.ring
  block b 4 - -
  block c 9999
  function help m
    x = (m rest (m - 1))
    a = (m = yard.ring(3))
    if (0 < m)
      k = main.x((m - 1))
    else
      k = 40
    i0 = 0
    while (i0 < 3)
      b[0] = (5 + x)
      k = 7
      i0 = (i0 + 1)
    give ((m + x) < (m = b[8]))
  function sum2 m n
    k = 10
    i0 = 0
    while (i0 < 2)
      give (b[(b[2] rest 3)] - k)
      c[0] = (i0 - 2)
      i0 = (i0 + 1)
    give b[2]
  door get p 3
    b[1] = (7 + p)
    c[0] = late
    i0 = 0
    while (i0 < 2)
      b[2] = p
      i0 = (i0 + 1)
  door put p 3
    if (0 < p)
      b[2] = main.x((p - 1))
    if (0 < p)
      b[2] = main.x((p - 1))
    if p
      k = 3
    give ((a + c[1]) - b[0])
room main
  uses a.put yard.ring gate.go
  block b -
  function help m n
    if m
      give m
      i0 = 0
      while (i0 < 1)
        w = m
        i0 = (i0 + 1)
    b[0] = 2
    give m
  door x p 10000
    if (0 < p)
      b[0] = a.put((p - 1))
    i0 = 0
    while (i0 < 1)
      k = help((1 rest p), p)
      if (0 < p)
        b[0] = gate.go((p - 1))
      i0 = (i0 + 1)
    give (gate.go(1) * p)
  door d2 p 10000
    w = b[0]
    give b[0]"""
ROW_TEXT = "\n".join([
    "start 291", "call 0 3 1 0", "back 3 0 5", "call 0 3 1 0", "back 3 0 0", "call 0 3 1 0", "back 3 0 0",
    "call 0 2 0 290", "back 2 0 0", "end 0",
])
PROGRAM = program_of(TEXT)
ROW = row_of(ROW_TEXT)
FOREIGN = (1,)
STEPS = 1000000


def great_tree(many):
    """A tree for room 0: a root with so many children, each of them the begin of a way of four nodes."""
    nodes = [(None, tuple((("in", 0, 3 * at), 1 + 4 * at) for at in range(many)))]
    for at in range(many):
        nodes += [
            (("gives", at % 50), ((("in", 0, at), 4 * at + 2),)), (("calls", 3, 1, at % 30), ((("got", at % 5), 4 * at + 3),)),
            (("gives", at % 7), ((("in", 0, 7), 4 * at + 4),)), (("gives", 9), ()),
        ]
    return tuple(nodes)
