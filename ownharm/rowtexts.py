"""The texts of rows, and rows read from their texts."""

from ownharm.errors import BadText
from ownharm.kinds import is_written_whole
from ownharm.rowcheck import RowWalk, is_field
from ownharm.rows import need_row

MOST_FIGURES = 4


def row_text(row):
    """The text of a row: a line for each crossing."""
    need_row(row)
    return "\n".join([" ".join([str(item) for item in crossing]) for crossing in row])


def is_told(word, field):
    """Whether a word of a text is a whole that the field lets stand."""
    return is_written_whole(word) and len(word) <= MOST_FIGURES and is_field(int(word), field)


def crossing_told(walk, line, words):
    """The crossing that the words of a line tell behind those of the walk; BadText with the first wrong word."""
    fields = walk.fields(words[0])
    if fields is None:
        raise BadText(line, 1)
    items = [words[0]]
    column = len(words[0]) + 2
    for at, word in enumerate(words[1:]):
        if at >= len(fields) or not is_told(word, fields[at]):
            raise BadText(line, column)
        items.append(int(word))
        column += len(word) + 1
    if len(items) <= len(fields):
        raise BadText(line, column - 1)
    return tuple(items)


def row_of(text):
    """The row with this text; BadText with the first word that can stand in no such row."""
    if not isinstance(text, str):
        raise BadText(1, 1)
    walk = RowWalk()
    row = []
    for at, line in enumerate(text.split("\n")):
        crossing = crossing_told(walk, at + 1, line.split(" "))
        walk.take(crossing)
        row.append(crossing)
    return row
