"""Some small rooms, by their texts."""

from ownharm.roomtexts import program_of
from ownharm.wishes import is_small


def small_room(text):
    """The room m of this text, beside a room o with the doors p and q."""
    small = program_of("depth 60\nroom o\n  door p x 10\n  door q x 10\nroom m\n" + text)[1][1]
    assert is_small(small)
    return small


def nesting(behind=""):
    """The room of the example of [72], and something behind its count."""
    return small_room(f"""  uses o.p
  block s 0
  door d x 1
    s[0] = (s[0] + 1)
{behind}    y = (o.p(0) rest 1)
    s[0] = (s[0] - 1)
    give 0
""")


def counting(most, door_size=1, behind=""):
    """A room that counts up to a number, asked again and again, and then does something."""
    return small_room(f"""  block s 0
  door d x {door_size}
    if (s[0] < {most})
      s[0] = (s[0] + 1)
      give 0
{behind}    give 1
""")


def asking(many, behind=""):
    """A room that asks so often in one running and then does something."""
    return small_room(f"""  uses o.p
  block s 0
  door d x 1
    i = 0
    while (i < {many})
      i = (i + 1)
      y = (o.p(i) rest 2)
{behind}    give y
""")


EXAMPLE = nesting()
