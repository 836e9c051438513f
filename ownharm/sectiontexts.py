"""The texts of sections, and sections read from their texts."""

from ownharm.boardcheck import MOST_CELLS
from ownharm.errors import BadSectionText
from ownharm.kinds import MOST_DOORS, is_written_whole
from ownharm.sections import instruction, instruction_number, is_instruction, need_section


def cell_words(number):
    """The list of the words that tell a cell by itself."""
    told = instruction(number)
    if instruction_number(told) != number:
        return ["cell", str(number)]
    return [str(word) for word in told]


def section_text(section):
    """The text of a section."""
    need_section(section)
    cells, entries = section
    lines = [" ".join(["entries"] + [str(entry) for entry in entries])]
    at = 0
    while at < len(cells):
        words = cell_words(cells[at])
        at += 1
        # The number that a set sets is the cell behind it, whichever instruction that would be.
        if words[0] == "set" and at < len(cells):
            words.append(str(cells[at]))
            at += 1
        lines.append(" ".join(words))
    return "\n".join(lines)


def numbers_told(words):
    """The list of the numbers that the words are, None if one of them is none."""
    if not all([is_written_whole(word) and len(word) <= 4 for word in words]):
        return None
    return [int(word) for word in words]


def entries_told(words):
    """The entries that the words of a line tell, None if they tell none."""
    if words[0] != "entries" or not 2 <= len(words) <= 1 + MOST_DOORS:
        return None
    return numbers_told(words[1:])


def cells_told(words):
    """The list of the cells that the words of a line tell, None if they tell none."""
    numbers = numbers_told(words[1:])
    if numbers is None:
        return None
    if words[0] == "cell":
        return numbers if len(numbers) == 1 else None
    if words[0] == "set" and len(numbers) == 2:
        if numbers[0] > 9:
            return None
        return [instruction_number(("set", numbers[0])), numbers[1]]
    told = (words[0], *numbers)
    return [instruction_number(told)] if is_instruction(told) else None


def section_of(text):
    """The section that a text tells; BadSectionText with the first line that is wrong."""
    if not isinstance(text, str):
        raise BadSectionText(None)
    lines = text.split("\n")
    entries = None
    cells = []
    for at, line in enumerate(lines):
        if line == "" or line.startswith("#"):
            continue
        words = line.split(" ")
        if entries is None:
            entries = entries_told(words)
            if entries is None:
                raise BadSectionText(at)
        else:
            found = cells_told(words)
            if found is None or len(cells) + len(found) > MOST_CELLS:
                raise BadSectionText(at)
            cells.extend(found)
    if not cells:
        raise BadSectionText(len(lines))
    return (tuple(cells), tuple(entries))
