"""A desk: a bench that is led by lines of text and answers with lines of text."""

from ownharm.bench import Bench
from ownharm.errors import (BadAddress, BadNumber, BadSection, BadSectionText, BadSteps, BadText, NothingDone, NotKept,
                            NotLaid, TooLarge, TooLong, TooMany)
from ownharm.kinds import good_name, is_written_whole
from ownharm.roomtexts import program_of, program_text
from ownharm.rowtexts import row_text
from ownharm.sectiontexts import section_of

MOST_FIGURES = 30
DONE = "ok"
EMPTY = "empty"
NO_FORM = "what"
NONE = "-"


def do_go(bench, told, text):
    """The machine goes on."""
    bench.go(told[0])
    return DONE


def do_write(bench, told, text):
    """A cell becomes a number."""
    bench.write(told[0], told[1], told[2])
    return DONE


def do_lay(bench, told, text):
    """A section is laid."""
    bench.lay(told[0], section_of(text))
    return DONE


def do_recompile(bench, told, text):
    """What is laid for a room goes."""
    bench.recompile(told[0])
    return DONE


def do_begin(bench, told, text):
    """The machine begins anew."""
    bench.begin(told[0])
    return DONE


def do_settle(bench, told, text):
    """Whoever did harm is exchanged."""
    bench.settle()
    return DONE


def do_keep(bench, told, text):
    """The moment is kept."""
    bench.keep(told[0])
    return DONE


def do_back(bench, told, text):
    """A moment that is kept comes back."""
    bench.back(told[0])
    return DONE


def do_undo(bench, told, text):
    """The last deed is taken back."""
    bench.undo()
    return DONE


def tell_row(bench, told, text):
    """The text of the row."""
    return row_text(bench.row)


def tell_state(bench, told, text):
    """The state and the steps."""
    return f"{bench.state} {bench.steps}"


def tell_touched(bench, told, text):
    """The names of the rooms that are touched."""
    return " ".join([bench.program[1][room][0] for room in bench.touched]) or NONE


def tell_blames(bench, told, text):
    """Who did harm."""
    names = [source[0] for source in bench.program[1]]
    return ", ".join([f"{names[room]} {part} {index} {at}" for room, (part, index), at in bench.blames()]) or NONE


def tell_cell(bench, told, text):
    """The number in a cell."""
    cells = bench.cells(told[0])
    if told[1] >= len(cells):
        raise BadAddress("the section has no such cell")
    return str(cells[told[1]])


def tell_text(bench, told, text):
    """The text of the program."""
    return program_text(bench.program)


def tell_kept(bench, told, text):
    """The names by which moments are kept."""
    return " ".join(bench.kept) or NONE


# Behind these lines a newline and a text follow.
WITH_TEXT = ("read", "lay")
# By the first word of a line: the kinds of the others.
FORMS = {
    "read": ("whole",), "go": ("whole",), "write": ("room", "whole", "whole"), "lay": ("room",), "recompile": ("room",),
    "begin": ("whole",), "settle": (), "keep": ("name",), "back": ("name",), "undo": (), "row": (), "state": (),
    "touched": (), "blames": (), "cell": ("room", "whole"), "text": (), "kept": (),
}
ACTIONS = {
    "go": do_go, "write": do_write, "lay": do_lay, "recompile": do_recompile, "begin": do_begin, "settle": do_settle,
    "keep": do_keep, "back": do_back, "undo": do_undo, "row": tell_row, "state": tell_state, "touched": tell_touched,
    "blames": tell_blames, "cell": tell_cell, "text": tell_text, "kept": tell_kept,
}


def told_word(word, kind, names):
    """What a word tells where one of this kind stands, None if it is none; names are those of the rooms, or None."""
    if kind == "whole":
        return int(word) if is_written_whole(word) and len(word) <= MOST_FIGURES else None
    if not good_name(word) or kind == "name" or names is None:
        return word if good_name(word) else None
    return names.index(word) if word in names else None


def told_words(words, kinds, names):
    """The list of what some words tell where words of these kinds stand, None if they have no such form."""
    if len(words) != len(kinds):
        return None
    told = [told_word(word, kind, names) for word, kind in zip(words, kinds)]
    return None if None in told else told


def answered(bench, word, told, text):
    """The answer of a bench to a line with this first word."""
    action = ACTIONS[word]
    try:
        return action(bench, told, text)
    except BadSteps:
        return "error badsteps"
    except BadNumber:
        return "error badnumber"
    except BadAddress:
        return "error badaddress"
    except BadSectionText:
        return "error badsectiontext"
    except BadSection:
        return "error badsection"
    except NotLaid:
        return "error notlaid"
    except NotKept:
        return "error notkept"
    except NothingDone:
        return "error nothingdone"
    except TooLarge:
        return "error toolarge"
    except TooLong:
        return "error toolong"
    except TooMany:
        return "error toomany"


class Desk:
    """A desk, at first without a bench."""

    def __init__(self):
        self._bench = None

    def say(self, line):
        """The answer to any value."""
        if not isinstance(line, str):
            return NO_FORM
        head, newline, text = line.partition("\n")
        words = head.split(" ")
        if words[0] not in FORMS or (newline != "") != (words[0] in WITH_TEXT):
            return NO_FORM
        names = None if self._bench is None else [source[0] for source in self._bench.program[1]]
        told = told_words(words[1:], FORMS[words[0]], names)
        if told is None:
            return NO_FORM
        if words[0] == "read":
            return self._read(told[0], text)
        return EMPTY if self._bench is None else answered(self._bench, words[0], told, text)

    def _read(self, number, text):
        """Another bench, with the program of the text."""
        try:
            self._bench = Bench(program_of(text), number)
        except BadText as error:
            return f"error badtext {error.line} {error.column}"
        except BadNumber:
            return "error badnumber"
        except TooLarge:
            return "error toolarge"
        return DONE
