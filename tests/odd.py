"""Values of every kind, to be passed where something else is expected."""

from ownharm.errors import BadText, OwnharmError
from ownharm.meaning import Run

SMALL = (1, (("m", (), (), (), (("go", "x", 1, ()),)),))


def nested(kind, many, inner):
    """A list, tuple or dict so many levels deep."""
    for _ in range(many):
        if kind == "list":
            inner = [inner]
        elif kind == "tuple":
            inner = (inner,)
        else:
            inner = {"k": inner}
    return inner


def odd_values():
    """A new list of values of every kind."""
    return [
        None, True, False, 0, 1, -1, 10000, 10 ** 99, -(10 ** 99), "", "x", "go", "number", "x" * 9, "\n", "~" * 20000,
        [], (), {}, [1, 2], (1, 2), ("go", 0), ["go", 0], ("go", True), (None, None), {"a": "b"}, {"a": 1}, {1: 2},
        {("a", "b"): "c"}, {None: None}, [None] * 2000, (0,) * 2000, nested("list", 40, 1), nested("tuple", 40, 1),
        nested("dict", 40, "x"), nested("tuple", 39, {}), ("number", True), ["number", 1], ("number", 1, 2),
        ("local", "if"), ("plus", ("number", 1)), (("number", 1),), ((), ()), ("give",), ("stop", 1), [("stop",)],
        (1, ()), [1, []], (1, [SMALL[1][0]]), (True, SMALL[1]), [1, SMALL[1]], list(SMALL[1][0]), ("in", 0, 3),
        ("got", 3), ["in", 0, 3], ("in", 0), ("in", True, 3), ("in", 0, False), ("in", 6, 3), ("start", 0),
        BadText(1, 2), OwnharmError("x"), Run(SMALL, 0), (Run(SMALL, 0), 0), [BadText(1, 1)],
    ]
